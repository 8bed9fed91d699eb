import Derived.Test.YtgkiknfpcbcnnaaGreatGd
namespace Go.Proofs.YtgkiknfpcbcnnaaGreat
open Go.RowKit
set_option maxRecDepth 20000
set_option maxHeartbeats 400000 in
theorem prefixOK_in (b l : Int) (w : World) (h1 : 0 ≤ l) (h2 : l ≤ 16) (h3 : 0 ≤ b) (h4 : b ≤ 65535) :
    Calls Tryz.prog 45 #[.agg #[.int .i64 b, .int .i64 l]] w fun e w' => e = .returned (.bool (prefOK b l)) ∧ Below w.heap.size w w' := by
  have d1 : decide (l < 0) = false := by simp; omega
  have d2 : decide (16 < l) = false := by simp; omega
  have d3 : decide (b < 0) = false := by simp; omega
  have d4 : decide (65535 < b) = false := by simp; omega
  have E : Hid (prefOK b l = decide (b % 2 ^ (16 - l).toNat = 0)) := by
    show prefOK b l = _
    simp [prefOK, h1, h2, h3, h4]
  go_enter Tryz.func45, Tryz.ntmps45
  go_wp2
  go_loop [3, 4] (fun st i => ∃ (j : Nat) (P : Int), i = .int .i64 (l + j) ∧ l + j ≤ 16 ∧ st = .int .i64 P ∧ Hid (P = 2 ^ j) ∧ 1 ≤ P ∧ P ≤ 65536) (fun _ i => 16 - (intOf i).toNat)
  case atStart => exact ⟨0, 1, by simp, by omega, rfl, rfl, by omega, by omega⟩
  case round =>
    obtain ⟨j, P, rfl, hj, rfl, hP, p1, p2⟩ := hrel
    by_cases hlt : l + (j : Int) < 16
    · have hp' : P ≤ 32768 := by
        have := pow_bd (j + 1) (by omega)
        have e : P = ((2 ^ j : Nat) : Int) := by rw [hP.out]; simp
        have e2 : (2 : Nat) ^ (j + 1) = 2 ^ j * 2 := Nat.pow_succ ..
        omega
      go_wp2
      go_round
      case rel => exact ⟨j + 1, 2 * P, by go_num, by omega, rfl, by show 2 * P = _; rw [hP.out, Int.pow_succ]; omega, by omega, by omega⟩
      case measure => simp [intOf]; omega
    · have hr : Hid (prefOK b l = (b % P == 0)) := by
        show prefOK b l = _
        rw [E.out, hP.out]
        have : (16 - l).toNat = j := by omega
        rw [this]
        by_cases hz : b % 2 ^ j = 0 <;> simp [hz]
      clear E
      go_wp2
      go_ret
      exact ⟨by rw [hr.out]; rfl, below_alloc _ _⟩
theorem prefixOK_any (b l : Int) (w : World) :
    Calls Tryz.prog 45 #[.agg #[.int .i64 b, .int .i64 l]] w fun e w' => e = .returned (.bool (prefOK b l)) ∧ Below w.heap.size w w' := by
  by_cases h1 : l < 0
  · have e : prefOK b l = false := by unfold prefOK; simp only [Bool.and_eq_false_iff, decide_eq_false_iff_not]; omega
    rw [e]; clear e
    have d1 : decide (l < 0) = true := by simpa using h1
    go_enter Tryz.func45, Tryz.ntmps45
    go_wp2
    go_ret
    exact ⟨rfl, below_alloc _ _⟩
  have d1 : decide (l < 0) = false := by simpa using h1
  by_cases h2 : 16 < l
  · have e : prefOK b l = false := by unfold prefOK; simp only [Bool.and_eq_false_iff, decide_eq_false_iff_not]; omega
    rw [e]; clear e
    have d2 : decide (16 < l) = true := by simpa using h2
    go_enter Tryz.func45, Tryz.ntmps45
    go_wp2
    go_ret
    exact ⟨rfl, below_alloc _ _⟩
  have d2 : decide (16 < l) = false := by simpa using h2
  by_cases h3 : b < 0
  · have e : prefOK b l = false := by unfold prefOK; simp only [Bool.and_eq_false_iff, decide_eq_false_iff_not]; omega
    rw [e]; clear e
    have d3 : decide (b < 0) = true := by simpa using h3
    go_enter Tryz.func45, Tryz.ntmps45
    go_wp2
    go_ret
    exact ⟨rfl, below_alloc _ _⟩
  have d3 : decide (b < 0) = false := by simpa using h3
  by_cases h4 : 65535 < b
  · have e : prefOK b l = false := by unfold prefOK; simp only [Bool.and_eq_false_iff, decide_eq_false_iff_not]; omega
    rw [e]; clear e
    have d4 : decide (65535 < b) = true := by simpa using h4
    go_enter Tryz.func45, Tryz.ntmps45
    go_wp2
    go_ret
    exact ⟨rfl, below_alloc _ _⟩
  exact prefixOK_in b l w (by omega) (by omega) (by omega) (by omega)
theorem termOK_first (k op vl : Int) (wd : Bool) (w : World) :
    Calls Tryz.prog 119 #[.int .i64 k, .agg #[.bool true, .bool wd, .int .i64 op, .int .i64 vl], .bool true] w fun e w' => e = .returned (.bool false) ∧ Below w.heap.size w w' := by
  go_enter Tryz.func119, Tryz.ntmps119
  go_wp2
  go_ret
  exact ⟨rfl, below_alloc _ _⟩
set_option maxHeartbeats 400000 in
theorem termOK_5w (k op vl : Int) (an f : Bool) (w : World) (haf : (an && f) = false) (hk : k = 5) :
    Calls Tryz.prog 119 #[.int .i64 k, .agg #[.bool an, .bool true, .int .i64 op, .int .i64 vl], .bool f] w fun e w' => e = .returned (.bool (false)) ∧ Below w.heap.size w w' := by
  have hk' : (k == 5) = true := by simpa using hk
  cases an <;> cases f <;> first | (exact absurd haf (by decide)) | skip
  all_goals
    go_enter Tryz.func119, Tryz.ntmps119
    go_wp2
    go_ret
    exact ⟨rfl, below_alloc _ _⟩
set_option maxHeartbeats 400000 in
theorem termOK_51 (k op vl : Int) (an f : Bool) (w : World) (haf : (an && f) = false) (hk : k = 5) (h : op < 0) :
    Calls Tryz.prog 119 #[.int .i64 k, .agg #[.bool an, .bool false, .int .i64 op, .int .i64 vl], .bool f] w fun e w' => e = .returned (.bool (false)) ∧ Below w.heap.size w w' := by
  have hk' : (k == 5) = true := by simpa using hk
  have d1 : decide (0 ≤ op) = false := by simp; omega
  cases an <;> cases f <;> first | (exact absurd haf (by decide)) | skip
  all_goals
    go_enter Tryz.func119, Tryz.ntmps119
    go_wp2
    go_ret
    exact ⟨rfl, below_alloc _ _⟩
set_option maxHeartbeats 400000 in
theorem termOK_52 (k op vl : Int) (an f : Bool) (w : World) (haf : (an && f) = false) (hk : k = 5) (h1 : 0 ≤ op) (h : 3 < op) :
    Calls Tryz.prog 119 #[.int .i64 k, .agg #[.bool an, .bool false, .int .i64 op, .int .i64 vl], .bool f] w fun e w' => e = .returned (.bool (false)) ∧ Below w.heap.size w w' := by
  have hk' : (k == 5) = true := by simpa using hk
  have d1 : decide (0 ≤ op) = true := by simp; omega
  have d2 : decide (op ≤ 3) = false := by simp; omega
  cases an <;> cases f <;> first | (exact absurd haf (by decide)) | skip
  all_goals
    go_enter Tryz.func119, Tryz.ntmps119
    go_wp2
    go_ret
    exact ⟨rfl, below_alloc _ _⟩
set_option maxHeartbeats 400000 in
theorem termOK_53 (k op vl : Int) (an f : Bool) (w : World) (haf : (an && f) = false) (hk : k = 5) (h1 : 0 ≤ op) (h2 : op ≤ 3) (h : vl < 0) :
    Calls Tryz.prog 119 #[.int .i64 k, .agg #[.bool an, .bool false, .int .i64 op, .int .i64 vl], .bool f] w fun e w' => e = .returned (.bool (false)) ∧ Below w.heap.size w w' := by
  have hk' : (k == 5) = true := by simpa using hk
  have d1 : decide (0 ≤ op) = true := by simp; omega
  have d2 : decide (op ≤ 3) = true := by simp; omega
  have d3 : decide (0 ≤ vl) = false := by simp; omega
  cases an <;> cases f <;> first | (exact absurd haf (by decide)) | skip
  all_goals
    go_enter Tryz.func119, Tryz.ntmps119
    go_wp2
    go_ret
    exact ⟨rfl, below_alloc _ _⟩
set_option maxHeartbeats 400000 in
theorem termOK_54 (k op vl : Int) (an f : Bool) (w : World) (haf : (an && f) = false) (hk : k = 5) (h1 : 0 ≤ op) (h2 : op ≤ 3) (h3 : 0 ≤ vl) (h : 255 < vl) :
    Calls Tryz.prog 119 #[.int .i64 k, .agg #[.bool an, .bool false, .int .i64 op, .int .i64 vl], .bool f] w fun e w' => e = .returned (.bool (false)) ∧ Below w.heap.size w w' := by
  have hk' : (k == 5) = true := by simpa using hk
  have d1 : decide (0 ≤ op) = true := by simp; omega
  have d2 : decide (op ≤ 3) = true := by simp; omega
  have d3 : decide (0 ≤ vl) = true := by simp; omega
  have d4 : decide (vl ≤ 255) = false := by simp; omega
  cases an <;> cases f <;> first | (exact absurd haf (by decide)) | skip
  all_goals
    go_enter Tryz.func119, Tryz.ntmps119
    go_wp2
    go_ret
    exact ⟨rfl, below_alloc _ _⟩
set_option maxHeartbeats 400000 in
theorem termOK_55 (k op vl : Int) (an f : Bool) (w : World) (haf : (an && f) = false) (hk : k = 5) (h1 : 0 ≤ op) (h2 : op ≤ 3) (h3 : 0 ≤ vl) (h : vl ≤ 255) :
    Calls Tryz.prog 119 #[.int .i64 k, .agg #[.bool an, .bool false, .int .i64 op, .int .i64 vl], .bool f] w fun e w' => e = .returned (.bool (true)) ∧ Below w.heap.size w w' := by
  have hk' : (k == 5) = true := by simpa using hk
  have d1 : decide (0 ≤ op) = true := by simp; omega
  have d2 : decide (op ≤ 3) = true := by simp; omega
  have d3 : decide (0 ≤ vl) = true := by simp; omega
  have d4 : decide (vl ≤ 255) = true := by simp; omega
  cases an <;> cases f <;> first | (exact absurd haf (by decide)) | skip
  all_goals
    go_enter Tryz.func119, Tryz.ntmps119
    go_wp2
    go_ret
    exact ⟨rfl, below_alloc _ _⟩
set_option maxHeartbeats 400000 in
theorem termOK_f1 (k op vl : Int) (an f : Bool) (w : World) (haf : (an && f) = false) (hk : k ≠ 5) (h : op < 0) :
    Calls Tryz.prog 119 #[.int .i64 k, .agg #[.bool an, .bool false, .int .i64 op, .int .i64 vl], .bool f] w fun e w' => e = .returned (.bool (false)) ∧ Below w.heap.size w w' := by
  have hk' : (k == 5) = false := by simpa using hk
  have d1 : decide (0 ≤ op) = false := by simp; omega
  cases an <;> cases f <;> first | (exact absurd haf (by decide)) | skip
  all_goals
    go_enter Tryz.func119, Tryz.ntmps119
    go_wp2
    go_ret
    exact ⟨rfl, below_alloc _ _⟩
set_option maxHeartbeats 400000 in
theorem termOK_f2 (k op vl : Int) (an f : Bool) (w : World) (haf : (an && f) = false) (hk : k ≠ 5) (h1 : 0 ≤ op) (h : 7 < op) :
    Calls Tryz.prog 119 #[.int .i64 k, .agg #[.bool an, .bool false, .int .i64 op, .int .i64 vl], .bool f] w fun e w' => e = .returned (.bool (false)) ∧ Below w.heap.size w w' := by
  have hk' : (k == 5) = false := by simpa using hk
  have d1 : decide (0 ≤ op) = true := by simp; omega
  have d2 : decide (op ≤ 7) = false := by simp; omega
  cases an <;> cases f <;> first | (exact absurd haf (by decide)) | skip
  all_goals
    go_enter Tryz.func119, Tryz.ntmps119
    go_wp2
    go_ret
    exact ⟨rfl, below_alloc _ _⟩
set_option maxHeartbeats 400000 in
theorem termOK_f3 (k op vl : Int) (an f : Bool) (w : World) (haf : (an && f) = false) (hk : k ≠ 5) (h1 : 0 ≤ op) (h2 : op ≤ 7) (h : vl < 0) :
    Calls Tryz.prog 119 #[.int .i64 k, .agg #[.bool an, .bool false, .int .i64 op, .int .i64 vl], .bool f] w fun e w' => e = .returned (.bool (false)) ∧ Below w.heap.size w w' := by
  have hk' : (k == 5) = false := by simpa using hk
  have d1 : decide (0 ≤ op) = true := by simp; omega
  have d2 : decide (op ≤ 7) = true := by simp; omega
  have d3 : decide (0 ≤ vl) = false := by simp; omega
  cases an <;> cases f <;> first | (exact absurd haf (by decide)) | skip
  all_goals
    go_enter Tryz.func119, Tryz.ntmps119
    go_wp2
    go_ret
    exact ⟨rfl, below_alloc _ _⟩
set_option maxHeartbeats 400000 in
theorem termOK_f4 (k op vl : Int) (an f : Bool) (w : World) (haf : (an && f) = false) (hk : k ≠ 5) (h1 : 0 ≤ op) (h2 : op ≤ 7) (h3 : 0 ≤ vl) (h : 255 < vl) :
    Calls Tryz.prog 119 #[.int .i64 k, .agg #[.bool an, .bool false, .int .i64 op, .int .i64 vl], .bool f] w fun e w' => e = .returned (.bool (false)) ∧ Below w.heap.size w w' := by
  have hk' : (k == 5) = false := by simpa using hk
  have d1 : decide (0 ≤ op) = true := by simp; omega
  have d2 : decide (op ≤ 7) = true := by simp; omega
  have d3 : decide (0 ≤ vl) = true := by simp; omega
  have d4 : decide (vl ≤ 255) = false := by simp; omega
  cases an <;> cases f <;> first | (exact absurd haf (by decide)) | skip
  all_goals
    go_enter Tryz.func119, Tryz.ntmps119
    go_wp2
    go_ret
    exact ⟨rfl, below_alloc _ _⟩
set_option maxHeartbeats 400000 in
theorem termOK_f5 (k op vl : Int) (an f : Bool) (w : World) (haf : (an && f) = false) (hk : k ≠ 5) (h1 : 0 ≤ op) (h2 : op ≤ 7) (h3 : 0 ≤ vl) (h : vl ≤ 255) :
    Calls Tryz.prog 119 #[.int .i64 k, .agg #[.bool an, .bool false, .int .i64 op, .int .i64 vl], .bool f] w fun e w' => e = .returned (.bool (true)) ∧ Below w.heap.size w w' := by
  have hk' : (k == 5) = false := by simpa using hk
  have d1 : decide (0 ≤ op) = true := by simp; omega
  have d2 : decide (op ≤ 7) = true := by simp; omega
  have d3 : decide (0 ≤ vl) = true := by simp; omega
  have d4 : decide (vl ≤ 255) = true := by simp; omega
  cases an <;> cases f <;> first | (exact absurd haf (by decide)) | skip
  all_goals
    go_enter Tryz.func119, Tryz.ntmps119
    go_wp2
    go_ret
    exact ⟨rfl, below_alloc _ _⟩
set_option maxHeartbeats 400000 in
theorem termOK_t1 (k op vl : Int) (an f : Bool) (w : World) (haf : (an && f) = false) (hk : k ≠ 5) (h : op < 0) :
    Calls Tryz.prog 119 #[.int .i64 k, .agg #[.bool an, .bool true, .int .i64 op, .int .i64 vl], .bool f] w fun e w' => e = .returned (.bool (false)) ∧ Below w.heap.size w w' := by
  have hk' : (k == 5) = false := by simpa using hk
  have d1 : decide (0 ≤ op) = false := by simp; omega
  cases an <;> cases f <;> first | (exact absurd haf (by decide)) | skip
  all_goals
    go_enter Tryz.func119, Tryz.ntmps119
    go_wp2
    go_ret
    exact ⟨rfl, below_alloc _ _⟩
set_option maxHeartbeats 400000 in
theorem termOK_t2 (k op vl : Int) (an f : Bool) (w : World) (haf : (an && f) = false) (hk : k ≠ 5) (h1 : 0 ≤ op) (h : 7 < op) :
    Calls Tryz.prog 119 #[.int .i64 k, .agg #[.bool an, .bool true, .int .i64 op, .int .i64 vl], .bool f] w fun e w' => e = .returned (.bool (false)) ∧ Below w.heap.size w w' := by
  have hk' : (k == 5) = false := by simpa using hk
  have d1 : decide (0 ≤ op) = true := by simp; omega
  have d2 : decide (op ≤ 7) = false := by simp; omega
  cases an <;> cases f <;> first | (exact absurd haf (by decide)) | skip
  all_goals
    go_enter Tryz.func119, Tryz.ntmps119
    go_wp2
    go_ret
    exact ⟨rfl, below_alloc _ _⟩
set_option maxHeartbeats 400000 in
theorem termOK_t3 (k op vl : Int) (an f : Bool) (w : World) (haf : (an && f) = false) (hk : k ≠ 5) (h1 : 0 ≤ op) (h2 : op ≤ 7) (h : vl < 0) :
    Calls Tryz.prog 119 #[.int .i64 k, .agg #[.bool an, .bool true, .int .i64 op, .int .i64 vl], .bool f] w fun e w' => e = .returned (.bool (false)) ∧ Below w.heap.size w w' := by
  have hk' : (k == 5) = false := by simpa using hk
  have d1 : decide (0 ≤ op) = true := by simp; omega
  have d2 : decide (op ≤ 7) = true := by simp; omega
  have d3 : decide (0 ≤ vl) = false := by simp; omega
  cases an <;> cases f <;> first | (exact absurd haf (by decide)) | skip
  all_goals
    go_enter Tryz.func119, Tryz.ntmps119
    go_wp2
    go_ret
    exact ⟨rfl, below_alloc _ _⟩
set_option maxHeartbeats 400000 in
theorem termOK_t4 (k op vl : Int) (an f : Bool) (w : World) (haf : (an && f) = false) (hk : k ≠ 5) (h1 : 0 ≤ op) (h2 : op ≤ 7) (h3 : 0 ≤ vl) (h : 65535 < vl) :
    Calls Tryz.prog 119 #[.int .i64 k, .agg #[.bool an, .bool true, .int .i64 op, .int .i64 vl], .bool f] w fun e w' => e = .returned (.bool (false)) ∧ Below w.heap.size w w' := by
  have hk' : (k == 5) = false := by simpa using hk
  have d1 : decide (0 ≤ op) = true := by simp; omega
  have d2 : decide (op ≤ 7) = true := by simp; omega
  have d3 : decide (0 ≤ vl) = true := by simp; omega
  have d4 : decide (vl ≤ 65535) = false := by simp; omega
  cases an <;> cases f <;> first | (exact absurd haf (by decide)) | skip
  all_goals
    go_enter Tryz.func119, Tryz.ntmps119
    go_wp2
    go_ret
    exact ⟨rfl, below_alloc _ _⟩
set_option maxHeartbeats 400000 in
theorem termOK_t5 (k op vl : Int) (an f : Bool) (w : World) (haf : (an && f) = false) (hk : k ≠ 5) (h1 : 0 ≤ op) (h2 : op ≤ 7) (h3 : 0 ≤ vl) (h : vl ≤ 65535) :
    Calls Tryz.prog 119 #[.int .i64 k, .agg #[.bool an, .bool true, .int .i64 op, .int .i64 vl], .bool f] w fun e w' => e = .returned (.bool (true)) ∧ Below w.heap.size w w' := by
  have hk' : (k == 5) = false := by simpa using hk
  have d1 : decide (0 ≤ op) = true := by simp; omega
  have d2 : decide (op ≤ 7) = true := by simp; omega
  have d3 : decide (0 ≤ vl) = true := by simp; omega
  have d4 : decide (vl ≤ 65535) = true := by simp; omega
  cases an <;> cases f <;> first | (exact absurd haf (by decide)) | skip
  all_goals
    go_enter Tryz.func119, Tryz.ntmps119
    go_wp2
    go_ret
    exact ⟨rfl, below_alloc _ _⟩
theorem termOK_any (k : Int) (t : Tm) (f : Bool) (w : World) :
    Calls Tryz.prog 119 #[.int .i64 k, .agg #[.bool t.an, .bool t.wd, .int .i64 t.op, .int .i64 t.vl], .bool f] w fun e w' => e = .returned (.bool (!(t.an && f) && isT k t)) ∧ Below w.heap.size w w' := by
  obtain ⟨an, wd, op, vl⟩ := t
  dsimp only
  cases haf : (an && f)
  · simp only [Bool.not_false, Bool.true_and]
    by_cases hk : k = 5
    · have e : isT k ⟨an, wd, op, vl⟩ = (!wd && decide (0 ≤ op) && decide (op ≤ 3) && decide (0 ≤ vl) && decide (vl ≤ mxV wd)) := by simp [isT, opM, hk]
      rw [e]
      cases wd
      · by_cases h1 : op < 0
        · have e2 : (!false && decide (0 ≤ op) && decide (op ≤ 3) && decide (0 ≤ vl) && decide (vl ≤ mxV false)) = false := by simp; omega
          rw [e2]; exact termOK_51 k op vl an f w haf hk h1
        by_cases h2 : 3 < op
        · have e2 : (!false && decide (0 ≤ op) && decide (op ≤ 3) && decide (0 ≤ vl) && decide (vl ≤ mxV false)) = false := by simp; omega
          rw [e2]; exact termOK_52 k op vl an f w haf hk (by omega) h2
        by_cases h3 : vl < 0
        · have e2 : (!false && decide (0 ≤ op) && decide (op ≤ 3) && decide (0 ≤ vl) && decide (vl ≤ mxV false)) = false := by simp; omega
          rw [e2]; exact termOK_53 k op vl an f w haf hk (by omega) (by omega) h3
        by_cases h4 : 255 < vl
        · have e2 : (!false && decide (0 ≤ op) && decide (op ≤ 3) && decide (0 ≤ vl) && decide (vl ≤ mxV false)) = false := by simp [mxV]; omega
          rw [e2]; exact termOK_54 k op vl an f w haf hk (by omega) (by omega) (by omega) h4
        · have e2 : (!false && decide (0 ≤ op) && decide (op ≤ 3) && decide (0 ≤ vl) && decide (vl ≤ mxV false)) = true := by simp [mxV]; omega
          rw [e2]; exact termOK_55 k op vl an f w haf hk (by omega) (by omega) (by omega) (by omega)
      · simp only [Bool.not_true, Bool.false_and]
        exact termOK_5w k op vl an f w haf hk
    · have e : isT k ⟨an, wd, op, vl⟩ = (decide (0 ≤ op) && decide (op ≤ 7) && decide (0 ≤ vl) && decide (vl ≤ mxV wd)) := by simp [isT, opM, hk]
      rw [e]
      cases wd
      · by_cases h1 : op < 0
        · have e2 : (decide (0 ≤ op) && decide (op ≤ 7) && decide (0 ≤ vl) && decide (vl ≤ mxV false)) = false := by simp; omega
          rw [e2]; exact termOK_f1 k op vl an f w haf hk h1
        by_cases h2 : 7 < op
        · have e2 : (decide (0 ≤ op) && decide (op ≤ 7) && decide (0 ≤ vl) && decide (vl ≤ mxV false)) = false := by simp; omega
          rw [e2]; exact termOK_f2 k op vl an f w haf hk (by omega) h2
        by_cases h3 : vl < 0
        · have e2 : (decide (0 ≤ op) && decide (op ≤ 7) && decide (0 ≤ vl) && decide (vl ≤ mxV false)) = false := by simp; omega
          rw [e2]; exact termOK_f3 k op vl an f w haf hk (by omega) (by omega) h3
        by_cases h4 : 255 < vl
        · have e2 : (decide (0 ≤ op) && decide (op ≤ 7) && decide (0 ≤ vl) && decide (vl ≤ mxV false)) = false := by simp [mxV]; omega
          rw [e2]; exact termOK_f4 k op vl an f w haf hk (by omega) (by omega) (by omega) h4
        · have e2 : (decide (0 ≤ op) && decide (op ≤ 7) && decide (0 ≤ vl) && decide (vl ≤ mxV false)) = true := by simp [mxV]; omega
          rw [e2]; exact termOK_f5 k op vl an f w haf hk (by omega) (by omega) (by omega) (by omega)
      · by_cases h1 : op < 0
        · have e2 : (decide (0 ≤ op) && decide (op ≤ 7) && decide (0 ≤ vl) && decide (vl ≤ mxV true)) = false := by simp; omega
          rw [e2]; exact termOK_t1 k op vl an f w haf hk h1
        by_cases h2 : 7 < op
        · have e2 : (decide (0 ≤ op) && decide (op ≤ 7) && decide (0 ≤ vl) && decide (vl ≤ mxV true)) = false := by simp; omega
          rw [e2]; exact termOK_t2 k op vl an f w haf hk (by omega) h2
        by_cases h3 : vl < 0
        · have e2 : (decide (0 ≤ op) && decide (op ≤ 7) && decide (0 ≤ vl) && decide (vl ≤ mxV true)) = false := by simp; omega
          rw [e2]; exact termOK_t3 k op vl an f w haf hk (by omega) (by omega) h3
        by_cases h4 : 65535 < vl
        · have e2 : (decide (0 ≤ op) && decide (op ≤ 7) && decide (0 ≤ vl) && decide (vl ≤ mxV true)) = false := by simp [mxV]; omega
          rw [e2]; exact termOK_t4 k op vl an f w haf hk (by omega) (by omega) (by omega) h4
        · have e2 : (decide (0 ≤ op) && decide (op ≤ 7) && decide (0 ≤ vl) && decide (vl ≤ mxV true)) = true := by simp [mxV]; omega
          rw [e2]; exact termOK_t5 k op vl an f w haf hk (by omega) (by omega) (by omega) (by omega)
  · simp only [Bool.not_true, Bool.false_and]
    have ha : an = true ∧ f = true := by simpa using haf
    obtain ⟨rfl, rfl⟩ := ha
    exact termOK_first k op vl wd w
end Go.Proofs.YtgkiknfpcbcnnaaGreat
namespace Go.Proofs.YtgkiknfpcbcnnaaGreat
open Go.RowKit
set_option maxRecDepth 20000
theorem partOK_pref (p : Pt) (ao : Option Addr) (cap : Nat) (w : World) (h : p.ty = 1 ∨ p.ty = 2) :
    Calls Tryz.prog 98 #[.agg #[.int .i64 p.ty, .int .i64 p.bt, .int .i64 p.ln, .slice ao p.ts.length cap]] w fun e w' => e = .returned (.bool (prefOK p.bt p.ln && decide (p.ts.length = 0))) ∧ Below w.heap.size w w' := by
  have hz : (((p.ts.length : Int) == 0)) = decide (p.ts.length = 0) := by
    by_cases h : p.ts.length = 0
    · simp [h]
    · have : ¬ ((p.ts.length : Int) = 0) := by omega
      simp [h]
  obtain ⟨ty, bt, ln, ts⟩ := p
  dsimp only at *
  rcases h with rfl | rfl
  all_goals
    cases hp : prefOK bt ln
    all_goals
      go_enter Tryz.func98, Tryz.ntmps98
      go_wp2_with (go_at_call 45; refine (prefixOK_any _ _ _).mono ?_; rintro e w1 ⟨rfl, hb1⟩; obtain ⟨a0, a1, a2, a3, af, az⟩ := cells_of_below hb1)
      go_ret
      exact ⟨by simp, below_first hb1⟩
theorem partOK_type (p : Pt) (ao : Option Addr) (cap : Nat) (w : World) (h1 : p.ty ≠ 1) (h2 : p.ty ≠ 2) (h : p.ty < 3 ∨ 5 < p.ty) :
    Calls Tryz.prog 98 #[.agg #[.int .i64 p.ty, .int .i64 p.bt, .int .i64 p.ln, .slice ao p.ts.length cap]] w fun e w' => e = .returned (.bool false) ∧ Below w.heap.size w w' := by
  have e1 : (p.ty == 1) = false := by simpa using h1
  have e2 : (p.ty == 2) = false := by simpa using h2
  rcases h with h | h
  · have d1 : decide (p.ty < 3) = true := by simpa using h
    go_enter Tryz.func98, Tryz.ntmps98
    go_wp2
    go_ret
    exact ⟨rfl, below_alloc _ _⟩
  · have d1 : decide (p.ty < 3) = false := by simp; omega
    have d2 : decide (5 < p.ty) = true := by simpa using h
    go_enter Tryz.func98, Tryz.ntmps98
    go_wp2
    go_ret
    exact ⟨rfl, below_alloc _ _⟩
theorem partOK_bits (p : Pt) (ao : Option Addr) (cap : Nat) (w : World) (h : 3 ≤ p.ty) (h' : p.ty ≤ 5) (hne : ¬ p.bt = 0) :
    Calls Tryz.prog 98 #[.agg #[.int .i64 p.ty, .int .i64 p.bt, .int .i64 p.ln, .slice ao p.ts.length cap]] w fun e w' => e = .returned (.bool false) ∧ Below w.heap.size w w' := by
  have e1 : (p.ty == 1) = false := by simp; omega
  have e2 : (p.ty == 2) = false := by simp; omega
  have d1 : decide (p.ty < 3) = false := by simp; omega
  have d2 : decide (5 < p.ty) = false := by simp; omega
  have hb : (p.bt == 0) = false := by simpa using hne
  go_enter Tryz.func98, Tryz.ntmps98
  go_wp2
  go_ret
  exact ⟨rfl, below_alloc _ _⟩
theorem partOK_len (ty ln : Int) (ts : List Tm) (ao : Option Addr) (cap : Nat) (w : World) (h : 3 ≤ ty) (h' : ty ≤ 5) (hne : ¬ ln = 0) :
    Calls Tryz.prog 98 #[.agg #[.int .i64 ty, .int .i64 0, .int .i64 ln, .slice ao ts.length cap]] w fun e w' => e = .returned (.bool false) ∧ Below w.heap.size w w' := by
  have e1 : (ty == 1) = false := by simp; omega
  have e2 : (ty == 2) = false := by simp; omega
  have d1 : decide (ty < 3) = false := by simp; omega
  have d2 : decide (5 < ty) = false := by simp; omega
  have hb : (ln == 0) = false := by simpa using hne
  go_enter Tryz.func98, Tryz.ntmps98
  go_wp2
  go_ret
  exact ⟨rfl, below_alloc _ _⟩
theorem partOK_few (ty : Int) (ts : List Tm) (ao : Option Addr) (cap : Nat) (w : World) (h : 3 ≤ ty) (h' : ty ≤ 5) (hne : ts.length < 1 ∨ 8 < ts.length) :
    Calls Tryz.prog 98 #[.agg #[.int .i64 ty, .int .i64 0, .int .i64 0, .slice ao ts.length cap]] w fun e w' => e = .returned (.bool false) ∧ Below w.heap.size w w' := by
  have e1 : (ty == 1) = false := by simp; omega
  have e2 : (ty == 2) = false := by simp; omega
  have d1 : decide (ty < 3) = false := by simp; omega
  have d2 : decide (5 < ty) = false := by simp; omega
  rcases hne with hn | hn
  · have d3 : decide ((ts.length : Int) < 1) = true := by simp; omega
    go_enter Tryz.func98, Tryz.ntmps98
    go_wp2
    go_ret
    exact ⟨rfl, below_alloc _ _⟩
  · have d3 : decide ((ts.length : Int) < 1) = false := by simp; omega
    have d4 : decide (8 < (ts.length : Int)) = true := by simp; omega
    go_enter Tryz.func98, Tryz.ntmps98
    go_wp2
    go_ret
    exact ⟨rfl, below_alloc _ _⟩
def tOK (k : Int) (t : Tm) (f : Bool) : Bool := !(t.an && f) && isT k t
theorem termOK_b (k : Int) (t : Tm) (f : Bool) (w W0 : World) (hb : Below W0.heap.size W0 w) :
    Calls Tryz.prog 119 #[.int .i64 k, .agg #[.bool t.an, .bool t.wd, .int .i64 t.op, .int .i64 t.vl], .bool f] w fun e w' => e = .returned (.bool (tOK k t f)) ∧ Below W0.heap.size W0 w' :=
  (termOK_any k t f w).mono fun _ _ h => ⟨h.1, hb.trans (h.2.mono hb.size)⟩
set_option maxHeartbeats 1600000 in
theorem partOK_terms (ty : Int) (ts : List Tm) (ao : Option Addr) (cap : Nat) (w : World) (h : 3 ≤ ty) (h' : ty ≤ 5) (hn : 1 ≤ ts.length) (hn' : ts.length ≤ 8) (ht : TermsIn w ao ts) :
    Calls Tryz.prog 98 #[.agg #[.int .i64 ty, .int .i64 0, .int .i64 0, .slice ao ts.length cap]] w fun e w' => e = .returned (.bool (allT ty true ts)) ∧ Below w.heap.size w w' := by
  have e1 : (ty == 1) = false := by simp; omega
  have e2 : (ty == 2) = false := by simp; omega
  have d1 : decide (ty < 3) = false := by simp; omega
  have d2 : decide (5 < ty) = false := by simp; omega
  have d3 : decide ((ts.length : Int) < 1) = false := by simp; omega
  have d4 : decide (8 < (ts.length : Int)) = false := by simp; omega
  go_enter Tryz.func98, Tryz.ntmps98
  go_wp2
  go_loopw [4] (fun i wr => ∃ j : Nat, i = .int .i64 j ∧ j ≤ ts.length ∧ Below (w.alloc (.cells #[.int .i64 ty, .int .i64 0, .int .i64 0, .slice ao ts.length cap] 140)).heap.size (w.alloc (.cells #[.int .i64 ty, .int .i64 0, .int .i64 0, .slice ao ts.length cap] 140)) wr ∧ Hid (allT ty true ts = allT ty (j == 0) (ts.drop j))) (fun i _ => ts.length - (intOf i).toNat)
  case atStart => exact ⟨0, rfl, Nat.zero_le _, Below.refl _ _, rfl⟩
  case round =>
    obtain ⟨j, rfl, hj, hbel, H⟩ := hrel
    obtain ⟨a0, a1, a2, a3, af, az⟩ := cells_of_below hbel
    have hb0 := below_first hbel
    by_cases hlt : j < ts.length
    · obtain ⟨b, off, rfl, c0, c1, c2, c3⟩ := ht.below hb0 j hlt
      have hd : ts.drop j = ts[j] :: ts.drop (j + 1) := List.drop_eq_getElem_cons hlt
      rw [hd] at H
      clear hd ht
      generalize ts[j] = t at *
      have hlb : b < wr.heap.size := World.block_lt_of_cell? wr _ c0
      have hj0 : ((j : Int) == 0) = (j == 0) := by cases j <;> simp; omega
      have HS : Hid (∀ w' : World, Below wr.heap.size wr w' → w'.cell? ⟨w.heap.size, 0, none⟩ = some (.int .i64 ty) ∧ w'.cell? ⟨w.heap.size, 3, none⟩ = some (.slice (some ⟨b, off, none⟩) ts.length cap) ∧ w'.cell? ⟨b, off + j * 4, none⟩ = some (.bool t.an) ∧ w'.cell? ⟨b, off + j * 4 + 1, none⟩ = some (.bool t.wd) ∧ w'.cell? ⟨b, off + j * 4 + 2, none⟩ = some (.int .i64 t.op) ∧ w'.cell? ⟨b, off + j * 4 + 3, none⟩ = some (.int .i64 t.vl) ∧ Below wr.heap.size wr w') := fun w' hb =>
        ⟨(hb.cell az).trans a0, (hb.cell az).trans a3, (hb.cell hlb).trans c0, (hb.cell hlb).trans c1, (hb.cell hlb).trans c2, (hb.cell hlb).trans c3, hb⟩
      have hz := hbel.size
      cases hr : tOK ty t (j == 0)
      · have HF : Hid (allT ty true ts = false) := by show _ = _; rw [H.out]; unfold tOK at hr; simp only [allT, hr, Bool.false_and]
        clear H
        go_wp2_with fail
        go_region_held3 (fun w' => w'.cell? ⟨w.heap.size, 0, none⟩ = some (.int .i64 ty) ∧ w'.cell? ⟨w.heap.size, 3, none⟩ = some (.slice (some ⟨b, off, none⟩) ts.length cap) ∧ w'.cell? ⟨b, off + j * 4, none⟩ = some (.bool t.an) ∧ w'.cell? ⟨b, off + j * 4 + 1, none⟩ = some (.bool t.wd) ∧ w'.cell? ⟨b, off + j * 4 + 2, none⟩ = some (.int .i64 t.op) ∧ w'.cell? ⟨b, off + j * 4 + 3, none⟩ = some (.int .i64 t.vl) ∧ Below wr.heap.size wr w')
          (first | exact HS.out _ (by assumption) | exact HS.out _ (Below.refl _ _).drew)
          (first | (go_at_call 119; refine (termOK_b _ _ _ _ wr (by go_split_ands; assumption)).mono ?_; rintro e w1 ⟨rfl, hb1⟩))
        go_wp2
        go_ret
        exact ⟨by rw [HF.out]; rfl, hb0.trans (hb1.mono (by omega))⟩
      · have HN : Hid (allT ty true ts = allT ty (j + 1 == 0) (ts.drop (j + 1))) := by show _ = _; rw [H.out]; unfold tOK at hr; simp only [allT, hr, Bool.true_and]; rfl
        clear H
        go_wp2_with fail
        go_region_held3 (fun w' => w'.cell? ⟨w.heap.size, 0, none⟩ = some (.int .i64 ty) ∧ w'.cell? ⟨w.heap.size, 3, none⟩ = some (.slice (some ⟨b, off, none⟩) ts.length cap) ∧ w'.cell? ⟨b, off + j * 4, none⟩ = some (.bool t.an) ∧ w'.cell? ⟨b, off + j * 4 + 1, none⟩ = some (.bool t.wd) ∧ w'.cell? ⟨b, off + j * 4 + 2, none⟩ = some (.int .i64 t.op) ∧ w'.cell? ⟨b, off + j * 4 + 3, none⟩ = some (.int .i64 t.vl) ∧ Below wr.heap.size wr w')
          (first | exact HS.out _ (by assumption) | exact HS.out _ (Below.refl _ _).drew)
          (first | (go_at_call 119; refine (termOK_b _ _ _ _ wr (by go_split_ands; assumption)).mono ?_; rintro e w1 ⟨rfl, hb1⟩))
        go_wp2
        go_roundw
        case rel => exact ⟨j + 1, by go_num, by omega, hbel.trans (hb1.mono hz), HN⟩
        case measure => simp [intOf]; omega
    · have HN : Hid (allT ty true ts = true) := by show _ = _; rw [H.out, List.drop_of_length_le (by omega)]; rfl
      clear H ht
      go_wp2
      go_ret
      exact ⟨by rw [HN.out]; rfl, hb0⟩
theorem partOK_any (p : Pt) (ao : Option Addr) (cap : Nat) (w : World) (ht : TermsIn w ao p.ts) :
    Calls Tryz.prog 98 #[.agg #[.int .i64 p.ty, .int .i64 p.bt, .int .i64 p.ln, .slice ao p.ts.length cap]] w fun e w' => e = .returned (.bool (isP p)) ∧ Below w.heap.size w w' := by
  by_cases hk : p.ty = 1 ∨ p.ty = 2
  · have hp : hasP p.ty = true := by simpa [hasP] using hk
    have e : isP p = (prefOK p.bt p.ln && decide (p.ts.length = 0)) := by unfold isP; rw [if_pos hp, Bool.and_comm]
    rw [e]; exact partOK_pref p ao cap w hk
  · have hp : hasP p.ty = false := by simpa [hasP] using hk
    by_cases hr : p.ty < 3 ∨ 5 < p.ty
    · have hT : hasT p.ty = false := by simp [hasT]; omega
      have e : isP p = false := by unfold isP; simp [hp, hT]
      rw [e]; exact partOK_type p ao cap w (fun h => hk (.inl h)) (fun h => hk (.inr h)) hr
    · have hT : hasT p.ty = true := by simp [hasT]; omega
      by_cases hb : p.bt = 0
      · obtain ⟨ty, bt, ln, ts⟩ := p
        dsimp only at *
        subst hb
        by_cases hl : ln = 0
        · subst hl
          have e : isP ⟨ty, 0, 0, ts⟩ = areT ty ts := by unfold isP; simp [hp, hT]
          rw [e]
          by_cases hn : ts.length < 1 ∨ 8 < ts.length
          · have e2 : areT ty ts = false := by unfold areT; simp; omega
            rw [e2]; exact partOK_few ty ts ao cap w (by omega) (by omega) hn
          · have e2 : areT ty ts = allT ty true ts := by unfold areT; simp; omega
            rw [e2]; exact partOK_terms ty ts ao cap w (by omega) (by omega) (by omega) (by omega) ht
        · have e : isP ⟨ty, 0, ln, ts⟩ = false := by unfold isP; simp [hp, hT, hl]
          rw [e]; exact partOK_len ty ln ts ao cap w (by omega) (by omega) hl
      · have e : isP p = false := by unfold isP; simp [hp, hT, hb]
        rw [e]; exact partOK_bits p ao cap w (by omega) (by omega) hb
end Go.Proofs.YtgkiknfpcbcnnaaGreat
set_option linter.unusedSimpArgs false
namespace Go.Proofs.YtgkiknfpcbcnnaaGreat
open Go.RowKit
set_option maxRecDepth 20000
structure BW (W0 w : World) (v : Value) (X : ByteArray) : Prop where
  gr : Below W0.heap.size W0 w
  own : w.ownsRow W0.heap.size 5 1 v X.size (bv X)
theorem BW.app {W0 w w1 : World} {v v1 : Value} {X Y : ByteArray} {o : Obj} {news : List Value} {m : Nat} (h : BW W0 w v X) (hg : (w.alloc o).grownBy w1 v.ownBlock) (ho : w1.ownsRow W0.heap.size 5 1 v1 (X.size + m) (bv X ++ news)) (hn : news = bv Y) : BW W0 w1 v1 (X ++ Y) := by
  subst hn
  refine ⟨below_byte h.gr h.gr.size h.own hg, ?_⟩
  have hm : X.size + m = (X ++ Y).size := by have := ho.1; rw [List.length_append, bv_len, bv_len] at this; rw [ByteArray.size_append]; omega
  rw [bv_app, ← hm]; exact ho
theorem BW.alloc {W0 w : World} {v : Value} {X : ByteArray} (h : BW W0 w v X) (o : Obj) : BW W0 (w.alloc o) v X := ⟨h.gr.alloc h.gr.size o, h.own.alloc o⟩
theorem bv_two (a b : Int) (ha : 0 ≤ a) (ha1 : a ≤ 255) (hb : 0 ≤ b) (hb1 : b ≤ 255) : bv (ch a ++ ch b) = [.int .u8 a, .int .u8 b] := by
  rw [bv_app, bv_ch a ha ha1, bv_ch b hb hb1]; rfl
theorem bv_three (a b c : Int) (ha : 0 ≤ a) (ha1 : a ≤ 255) (hb : 0 ≤ b) (hb1 : b ≤ 255) (hc : 0 ≤ c) (hc1 : c ≤ 255) : bv (ch a ++ (ch b ++ ch c)) = [.int .u8 a, .int .u8 b, .int .u8 c] := by
  rw [bv_app, bv_two b c hb hb1 hc hc1, bv_ch a ha ha1]; rfl
theorem cell_two_new' (w : World) (k : Nat) (a b : Value) (t : TypeId) (hk : w.heap.size = k) : ∀ j u, [a, b][j]? = some u → (w.alloc (.cells #[a, b] t)).cell? ((⟨k, 0, none⟩ : Addr).add j) = some u := by
  subst hk
  intro j u hj
  match j, hj with
  | 0, hj => simp at hj; subst hj; simp [Addr.add]
  | 1, hj => simp at hj; subst hj; simp [Addr.add]
  | n + 2, hj => simp at hj
theorem cell_three_new' (w : World) (k : Nat) (a b c : Value) (t : TypeId) (hk : w.heap.size = k) : ∀ j u, [a, b, c][j]? = some u → (w.alloc (.cells #[a, b, c] t)).cell? ((⟨k, 0, none⟩ : Addr).add j) = some u := by
  subst hk
  intro j u hj
  match j, hj with
  | 0, hj => simp at hj; subst hj; simp [Addr.add]
  | 1, hj => simp at hj; subst hj; simp [Addr.add]
  | 2, hj => simp at hj; subst hj; simp [Addr.add]
  | n + 3, hj => simp at hj
theorem int_two (k : IntKind) (n m : Int) : ∀ u ∈ [Value.int k n, Value.int k m], u.oneCell' = true := by simp [Value.oneCell']
theorem int_three (k : IntKind) (n m q : Int) : ∀ u ∈ [Value.int k n, Value.int k m, Value.int k q], u.oneCell' = true := by simp [Value.oneCell']
set_option maxHeartbeats 1600000 in
theorem written_pref (p : Pt) (ao : Option Addr) (cap : Nat) (w : World) (k1 : 1 ≤ p.ty) (k2 : p.ty ≤ 2) (h : prefOK p.bt p.ln = true) :
    Calls Tryz.prog 79 #[.agg #[.int .i64 p.ty, .int .i64 p.bt, .int .i64 p.ln, .slice ao p.ts.length cap]] w fun e w' => e = .returned (.string (ch p.ty ++ wPref p.bt p.ln)) ∧ Below w.heap.size w w' := by
  obtain ⟨k, b, l, ts⟩ := p
  dsimp only at *
  obtain ⟨i0, hi, hz0, hz1, hz2⟩ := info_parts infoByte
  obtain ⟨l0, l1, b0, b1, _⟩ := prefOK_bd h
  have ek : k % 256 = k := by omega
  have el : l % 256 = l := by omega
  have eb : b / 256 % 256 = b / 256 := by omega
  have eb2 : b % 256 % 256 = b % 256 := by omega
  have hW0 : BW (w.alloc (.cells #[.int .i64 k, .int .i64 b, .int .i64 l, .slice ao ts.length cap] 140)) ((w.alloc (.cells #[.int .i64 k, .int .i64 b, .int .i64 l, .slice ao ts.length cap] 140)).alloc (.cells #[.int .u8 k] 5)) (.slice (some ⟨w.heap.size + 1, 0, none⟩) 1 1) (ch k) :=
    ⟨below_alloc _ _, by have := owns_one (w.alloc (.cells #[.int .i64 k, .int .i64 b, .int .i64 l, .slice ao ts.length cap] 140)) (w.alloc (.cells #[.int .i64 k, .int .i64 b, .int .i64 l, .slice ao ts.length cap] 140)).heap.size k (by omega) (by omega) (Nat.le_refl _); simpa using this⟩
  by_cases c1 : 0 < l
  · by_cases c2 : 8 < l
    · have e : ch k ++ wPref b l = ch k ++ ch l ++ ch (b / 256) ++ ch (b % 256) := by rw [wPref_two b l c2]; simp [app_assoc]
      rw [e]; clear e
      go_enter Tryz.func79, Tryz.ntmps79
      go_wp2_with (first
        | (at_builtin; refine wpList_append_own _ rfl (.tmp 14) (.tmp 19) 146 rfl _ 5 i0 _ 1 1 Tryz.underlying146 hi hz0 hz1 hz2 rfl (by decide) _ _ _ rfl (hW0.own.alloc _) ⟨w.heap.size + 2, 0, none⟩ 1 1 [.int .u8 l] rfl rfl (cell_one_new _ _ _ _ (by simp)) (int_one _ _) (by unfold maxLen; simp only [ch_size]; omega) (by simp only [ch_size]; omega) (by simp) ?_; intro v1 w1 ho1 hg1 _; have hW1 := hW0.app hg1 ho1 (bv_ch l l0 (by omega)).symm; have hcv1 := conv_own hW1.own (by simp only [ByteArray.size_append, ch_size]; omega); obtain ⟨p0, p1, p2, p3, pf, pz⟩ := cells_of_below hW1.gr; clear ho1 hg1)
        | (at_builtin; refine wpList_append_own _ rfl (.tmp 25) (.tmp 31) 146 rfl _ 5 i0 _ 1 1 Tryz.underlying146 hi hz0 hz1 hz2 rfl (by decide) _ _ _ rfl (hW1.own.alloc _) ⟨w1.heap.size, 0, none⟩ 1 1 [.int .u8 (b / 256)] rfl rfl (cell_one_new _ _ _ _ rfl) (int_one _ _) (by unfold maxLen; simp only [ByteArray.size_append, ch_size]; omega) (by simp only [ByteArray.size_append, ch_size]; omega) (by have := hW1.gr.size; simp at this ⊢; omega) ?_; intro v2 w2 ho2 hg2 _; have hW2 := hW1.app hg2 ho2 (bv_ch (b / 256) (by omega) (by omega)).symm; have hcv2 := conv_own hW2.own (by simp only [ByteArray.size_append, ch_size]; omega); obtain ⟨q0, q1, q2, q3, qf, qz⟩ := cells_of_below hW2.gr; clear ho2 hg2)
        | (at_builtin; refine wpList_append_own _ rfl (.tmp 37) (.tmp 43) 146 rfl _ 5 i0 _ 1 1 Tryz.underlying146 hi hz0 hz1 hz2 rfl (by decide) _ _ _ rfl (hW2.own.alloc _) ⟨w2.heap.size, 0, none⟩ 1 1 [.int .u8 (b % 256)] rfl rfl (cell_one_new _ _ _ _ rfl) (int_one _ _) (by unfold maxLen; simp only [ByteArray.size_append, ch_size]; omega) (by simp only [ByteArray.size_append, ch_size]; omega) (by have := hW2.gr.size; simp at this ⊢; omega) ?_; intro v3 w3 ho3 hg3 _; have hW3 := hW2.app hg3 ho3 (bv_ch (b % 256) (by omega) (by omega)).symm; have hcv3 := conv_own hW3.own (by simp only [ByteArray.size_append, ch_size]; omega); clear ho3 hg3))
      go_ret
      exact ⟨rfl, below_first hW3.gr⟩
    · have e : ch k ++ wPref b l = ch k ++ ch l ++ ch (b / 256) := by rw [wPref_one b l c1 c2]; simp [app_assoc]
      rw [e]; clear e
      go_enter Tryz.func79, Tryz.ntmps79
      go_wp2_with (first
        | (at_builtin; refine wpList_append_own _ rfl (.tmp 14) (.tmp 19) 146 rfl _ 5 i0 _ 1 1 Tryz.underlying146 hi hz0 hz1 hz2 rfl (by decide) _ _ _ rfl (hW0.own.alloc _) ⟨w.heap.size + 2, 0, none⟩ 1 1 [.int .u8 l] rfl rfl (cell_one_new _ _ _ _ (by simp)) (int_one _ _) (by unfold maxLen; simp only [ch_size]; omega) (by simp only [ch_size]; omega) (by simp) ?_; intro v1 w1 ho1 hg1 _; have hW1 := hW0.app hg1 ho1 (bv_ch l l0 (by omega)).symm; have hcv1 := conv_own hW1.own (by simp only [ByteArray.size_append, ch_size]; omega); obtain ⟨p0, p1, p2, p3, pf, pz⟩ := cells_of_below hW1.gr; clear ho1 hg1)
        | (at_builtin; refine wpList_append_own _ rfl (.tmp 25) (.tmp 31) 146 rfl _ 5 i0 _ 1 1 Tryz.underlying146 hi hz0 hz1 hz2 rfl (by decide) _ _ _ rfl (hW1.own.alloc _) ⟨w1.heap.size, 0, none⟩ 1 1 [.int .u8 (b / 256)] rfl rfl (cell_one_new _ _ _ _ rfl) (int_one _ _) (by unfold maxLen; simp only [ByteArray.size_append, ch_size]; omega) (by simp only [ByteArray.size_append, ch_size]; omega) (by have := hW1.gr.size; simp at this ⊢; omega) ?_; intro v2 w2 ho2 hg2 _; have hW2 := hW1.app hg2 ho2 (bv_ch (b / 256) (by omega) (by omega)).symm; have hcv2 := conv_own hW2.own (by simp only [ByteArray.size_append, ch_size]; omega); obtain ⟨q0, q1, q2, q3, qf, qz⟩ := cells_of_below hW2.gr; clear ho2 hg2))
      go_ret
      exact ⟨rfl, below_first hW2.gr⟩
  · have e : ch k ++ wPref b l = ch k ++ ch l := by rw [wPref_zero b l c1]
    rw [e]; clear e
    go_enter Tryz.func79, Tryz.ntmps79
    go_wp2_with (at_builtin; refine wpList_append_own _ rfl (.tmp 14) (.tmp 19) 146 rfl _ 5 i0 _ 1 1 Tryz.underlying146 hi hz0 hz1 hz2 rfl (by decide) _ _ _ rfl (hW0.own.alloc _) ⟨w.heap.size + 2, 0, none⟩ 1 1 [.int .u8 l] rfl rfl (cell_one_new _ _ _ _ (by simp)) (int_one _ _) (by unfold maxLen; simp only [ch_size]; omega) (by simp only [ch_size]; omega) (by simp) ?_; intro v1 w1 ho1 hg1 _; have hW1 := hW0.app hg1 ho1 (bv_ch l l0 (by omega)).symm; have hcv1 := conv_own hW1.own (by simp only [ByteArray.size_append, ch_size]; omega); obtain ⟨p0, p1, p2, p3, pf, pz⟩ := cells_of_below hW1.gr; clear ho1 hg1)
    go_ret
    exact ⟨rfl, below_first hW1.gr⟩
end Go.Proofs.YtgkiknfpcbcnnaaGreat
