import Derived.Test.YtkdcjcemeipkjaaMat4
namespace Go.Proofs.Ytkdcjcemeipkjaa
open Go.RowKit
set_option maxRecDepth 20000

theorem metN_bd (v vl : Nat) : ∀ n, askN vl n ≤ n ∧ metN v vl n ≤ n := by
  intro n
  have := metN_le v vl n
  have h2 : askN vl n ≤ n := by
    clear this
    induction n with
    | zero => simp [askN]
    | succ n ih => simp only [askN]; split <;> omega
  omega

theorem met_yes {v vl j : Nat} (h : vl / 2 ^ j % 2 = 1) : metN v vl (j + 1) = metN v vl j + v / 2 ^ j % 2 ∧ askN vl (j + 1) = askN vl j + 1 := by
  constructor <;> simp only [metN, askN, if_pos h]
theorem met_no {v vl j : Nat} (h : ¬ vl / 2 ^ j % 2 = 1) : metN v vl (j + 1) = metN v vl j ∧ askN vl (j + 1) = askN vl j := by
  constructor <;> simp only [metN, askN, if_neg h, Nat.add_zero]

theorem pow_cases {j : Nat} {b : Int} (hj : j ≤ 8) (h8 : ¬ j = 8) (hb : b = (2 : Int) ^ j) : (j = 0 ∧ b = 1) ∨ (j = 1 ∧ b = 2) ∨ (j = 2 ∧ b = 4) ∨ (j = 3 ∧ b = 8) ∨ (j = 4 ∧ b = 16) ∨ (j = 5 ∧ b = 32) ∨ (j = 6 ∧ b = 64) ∨ (j = 7 ∧ b = 128) := by
  subst hb
  have hc : j = 0 ∨ j = 1 ∨ j = 2 ∨ j = 3 ∨ j = 4 ∨ j = 5 ∨ j = 6 ∨ j = 7 := by omega
  rcases hc with rfl | rfl | rfl | rfl | rfl | rfl | rfl | rfl <;> decide

theorem beq_cast (m a : Nat) : ((m : Int) == (a : Int)) = decide (m = a) := by
  by_cases h : m = a
  · simp [h]
  · rw [decide_eq_false h]; exact beq_eq_false_iff_ne.2 (by omega)

set_option maxHeartbeats 1600000 in
theorem term_flags (an wd : Bool) (op : Int) (vl v : Nat) (w : World) (o0 : 0 ≤ op) (o1 : op ≤ 3) (hl : vl ≤ 255) (hv : v ≤ 255) :
    Calls Try.prog 79 #[.int .i64 5, .agg #[.bool an, .bool wd, .int .i64 op, .int .i64 vl], .int .i64 v] w fun e w' => e = .returned (.bool (fH op vl v)) ∧ Below w.heap.size w w' := by
  have E : Hid (fY op vl v = if op % 2 = 1 then decide (metN v vl 8 = askN vl 8) else decide (0 < metN v vl 8)) := fY_met op v vl hv hl
  go_enter Try.func79, Try.ntmps79
  go_wp2
  go_loop [7, 8, 9] (fun x y z => ∃ (j : Nat) (b : Int), j ≤ 8 ∧ b = (2 : Int) ^ j ∧ x = .int .i64 (metN v vl j) ∧ y = .int .i64 (askN vl j) ∧ z = .int .i64 b) (fun _ _ z => (256 - intOf z).toNat)
  case atStart => exact ⟨0, 1, by omega, rfl, rfl, rfl, rfl⟩
  case round =>
    obtain ⟨j, b, hj, hb, rfl, rfl, rfl⟩ := hrel
    have hmb := metN_bd v vl j
    by_cases h8 : j = 8
    · subst h8
      have hb' : b = 256 := hb
      subst hb'
      clear hb
      generalize metN v vl 8 = m at *
      generalize askN vl 8 = a at *
      have ho : op = 0 ∨ op = 1 ∨ op = 2 ∨ op = 3 := by omega
      rcases ho with rfl | rfl | rfl | rfl
      · have E2 : Hid (fH 0 vl v = decide (0 < m)) := by show _ = _; unfold fH; rw [E.out]; rfl
        clear E
        go_wp2
        go_ret
        exact ⟨by rw [E2.out]; simp, below_alloc _ _⟩
      · have E2 : Hid (fH 1 vl v = ((m : Int) == (a : Int))) := by show _ = _; unfold fH; rw [E.out, beq_cast]; rfl
        clear E
        go_wp2
        go_ret
        exact ⟨by rw [E2.out]; simp, below_alloc _ _⟩
      · have E2 : Hid (fH 2 vl v = !decide (0 < m)) := by show _ = _; unfold fH; rw [E.out]; rfl
        clear E
        go_wp2
        go_ret
        exact ⟨by rw [E2.out]; simp, below_alloc _ _⟩
      · have E2 : Hid (fH 3 vl v = !((m : Int) == (a : Int))) := by show _ = _; unfold fH; rw [E.out, beq_cast]; rfl
        clear E
        go_wp2
        go_ret
        exact ⟨by rw [E2.out]; simp, below_alloc _ _⟩
    · clear E
      by_cases h1 : vl / 2 ^ j % 2 = 1
      · obtain ⟨HM, HA⟩ := met_yes (v := v) h1
        have HM' : Hid (metN v vl (j + 1) = metN v vl j + v / 2 ^ j % 2) := HM
        have HA' : Hid (askN vl (j + 1) = askN vl j + 1) := HA
        clear HM HA
        generalize hm : metN v vl j = m at *
        generalize ha : askN vl j = a at *
        clear hm ha
        have hc : (j = 0 ∧ b = 1) ∨ (j = 1 ∧ b = 2) ∨ (j = 2 ∧ b = 4) ∨ (j = 3 ∧ b = 8) ∨ (j = 4 ∧ b = 16) ∨ (j = 5 ∧ b = 32) ∨ (j = 6 ∧ b = 64) ∨ (j = 7 ∧ b = 128) := pow_cases hj h8 hb
        clear h8 hb
        rcases hc with ⟨hj', rfl⟩ | ⟨hj', rfl⟩ | ⟨hj', rfl⟩ | ⟨hj', rfl⟩ | ⟨hj', rfl⟩ | ⟨hj', rfl⟩ | ⟨hj', rfl⟩ | ⟨hj', rfl⟩
        all_goals
          rw [hj'] at h1
          simp only [Nat.reducePow, Nat.pow_zero] at h1
          go_wp2
          go_round
          case rel => exact ⟨j + 1, _, by omega, by rw [hj']; rfl, by rw [HM'.out, hj']; simp, by rw [HA'.out]; simp, rfl⟩
          case measure => simp [intOf]
      · obtain ⟨HM, HA⟩ := met_no (v := v) h1
        have HM' : Hid (metN v vl (j + 1) = metN v vl j) := HM
        have HA' : Hid (askN vl (j + 1) = askN vl j) := HA
        clear HM HA
        generalize hm : metN v vl j = m at *
        generalize ha : askN vl j = a at *
        clear hm ha
        have hc : (j = 0 ∧ b = 1) ∨ (j = 1 ∧ b = 2) ∨ (j = 2 ∧ b = 4) ∨ (j = 3 ∧ b = 8) ∨ (j = 4 ∧ b = 16) ∨ (j = 5 ∧ b = 32) ∨ (j = 6 ∧ b = 64) ∨ (j = 7 ∧ b = 128) := pow_cases hj h8 hb
        clear h8 hb
        rcases hc with ⟨hj', rfl⟩ | ⟨hj', rfl⟩ | ⟨hj', rfl⟩ | ⟨hj', rfl⟩ | ⟨hj', rfl⟩ | ⟨hj', rfl⟩ | ⟨hj', rfl⟩ | ⟨hj', rfl⟩
        all_goals
          rw [hj'] at h1
          simp only [Nat.reducePow, Nat.pow_zero] at h1
          go_wp2
          go_round
          case rel => exact ⟨j + 1, _, by omega, by rw [hj']; rfl, by rw [HM'.out], by rw [HA'.out], rfl⟩
          case measure => simp [intOf]
end Go.Proofs.Ytkdcjcemeipkjaa
