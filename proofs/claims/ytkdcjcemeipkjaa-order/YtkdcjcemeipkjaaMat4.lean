import Derived.Test.YtkdcjcemeipkjaaMat2
namespace Go.Proofs.Ytkdcjcemeipkjaa
open Go.RowKit
set_option maxRecDepth 20000

/-- A digit; the low n bits of a number, the highest first. -/
def dg (x : Nat) : ByteArray := if x % 2 = 1 then ⟨#[49]⟩ else ⟨#[48]⟩
def bin (v : Nat) : Nat → ByteArray
  | 0 => ⟨#[]⟩
  | n + 1 => dg (v / 2 ^ n) ++ bin v n

theorem dg_size (x : Nat) : (dg x).size = 1 := by unfold dg; split <;> rfl
theorem bin_size (v : Nat) : ∀ n, (bin v n).size = n := by
  intro n
  induction n with
  | zero => rfl
  | succ n ih => simp only [bin, ByteArray.size_append, dg_size, ih]; omega

set_option maxHeartbeats 400000 in
theorem binary_any (v : Nat) (n : Nat) (w : World) (hv : v ≤ 65535) (hn : n ≤ 16) :
    Calls Try.prog 59 #[.int .i64 v, .int .i64 n] w fun e w' => e = .returned (.string (bin v n)) ∧ w = w' := by
  go_enter Try.func59, Try.ntmps59
  go_wp2
  go_loop [0, 5, 6] (fun x s i => ∃ j : Nat, j ≤ n ∧ x = .int .i64 ((v / 2 ^ j : Nat) : Int) ∧ s = .string (bin v j) ∧ i = .int .i64 j) (fun _ _ i => n - (intOf i).toNat)
  case atStart => exact ⟨0, Nat.zero_le _, by simp, rfl, rfl⟩
  case round =>
    obtain ⟨j, hj, rfl, rfl, rfl⟩ := hrel
    have hs := bin_size v j
    have hd : v / 2 ^ j ≤ v := Nat.div_le_self _ _
    have hh : v / 2 ^ j / 2 = v / 2 ^ (j + 1) := by rw [Nat.div_div_eq_div_mul, Nat.pow_succ]
    have hb : bin v (j + 1) = dg (v / 2 ^ j) ++ bin v j := rfl
    by_cases hlt : j < n
    · generalize hx : v / 2 ^ j = x at *
      generalize hy : bin v j = s at *
      have HN : Hid (bin v (j + 1) = dg x ++ s) := hb
      have HH : Hid (x / 2 = v / 2 ^ (j + 1)) := hh
      clear hb hh hx hy
      by_cases h1 : x % 2 = 1
      · have hd2 : ((x : Int) % 2 == 1) = true := by simp; omega
        have HD : Hid (dg x = ⟨#[49]⟩) := by show dg x = _; unfold dg; rw [if_pos h1]
        go_wp2
        go_round
        case rel => exact ⟨j + 1, by omega, by rw [← HH.out]; simp, by rw [HN.out, HD.out], by go_num⟩
        case measure => simp [intOf]; omega
      · have hd2 : ((x : Int) % 2 == 1) = false := by simp; omega
        have HD : Hid (dg x = ⟨#[48]⟩) := by show dg x = _; unfold dg; rw [if_neg h1]
        go_wp2
        go_round
        case rel => exact ⟨j + 1, by omega, by rw [← HH.out]; simp, by rw [HN.out, HD.out], by go_num⟩
        case measure => simp [intOf]; omega
    · have : j = n := by omega
      subst this
      clear hb hh
      go_wp2
      go_ret
      exact ⟨rfl, rfl⟩

set_option maxHeartbeats 1600000 in
theorem headerOK_any (h : Hd) (w : World) :
    Calls Try.prog 35 #[.agg #[.int .i64 h.ds, .int .i64 h.sr, .int .i64 h.pr, .int .i64 h.po, .int .i64 h.fl, .bool h.la]] w fun e w' => e = .returned (.bool (hdOK h)) ∧ Below w.heap.size w w' := by
  obtain ⟨ds, sr, pr, po, fl, la⟩ := h
  have E : Hid (hdOK ⟨ds, sr, pr, po, fl, la⟩ = (!(decide (ds < 0) || decide (sr < 0) || decide (pr < 0) || decide (po < 0) || decide (fl < 0)) && (decide (ds < 65536) && decide (sr < 65536) && decide (pr < 256) && decide (po < 65536) && decide (fl < 256)))) := by
    show _ = _
    unfold hdOK isN
    simp only []
    rw [Bool.eq_iff_iff]
    simp only [Bool.and_eq_true, Bool.not_eq_true', Bool.or_eq_false_iff, decide_eq_true_eq, decide_eq_false_iff_not]
    omega
  simp only []
  by_cases n1 : ds < 0
  · have d1 : decide (ds < 0) = true := by simpa using n1
    have E2 : Hid (hdOK ⟨ds, sr, pr, po, fl, la⟩ = false) := by show _ = _; rw [E.out, d1]; rfl
    clear n1 E
    go_enter Try.func35, Try.ntmps35
    go_wp2; go_ret; exact ⟨by rw [E2.out]; rfl, below_alloc _ _⟩
  have d1 : decide (ds < 0) = false := by simpa using n1
  by_cases n2 : sr < 0
  · have d2 : decide (sr < 0) = true := by simpa using n2
    have E2 : Hid (hdOK ⟨ds, sr, pr, po, fl, la⟩ = false) := by show _ = _; rw [E.out, d2]; simp
    clear n1 n2 E
    go_enter Try.func35, Try.ntmps35
    go_wp2; go_ret; exact ⟨by rw [E2.out]; rfl, below_alloc _ _⟩
  have d2 : decide (sr < 0) = false := by simpa using n2
  by_cases n3 : pr < 0
  · have d3 : decide (pr < 0) = true := by simpa using n3
    have E2 : Hid (hdOK ⟨ds, sr, pr, po, fl, la⟩ = false) := by show _ = _; rw [E.out, d3]; simp
    clear n1 n2 n3 E
    go_enter Try.func35, Try.ntmps35
    go_wp2; go_ret; exact ⟨by rw [E2.out]; rfl, below_alloc _ _⟩
  have d3 : decide (pr < 0) = false := by simpa using n3
  by_cases n4 : po < 0
  · have d4 : decide (po < 0) = true := by simpa using n4
    have E2 : Hid (hdOK ⟨ds, sr, pr, po, fl, la⟩ = false) := by show _ = _; rw [E.out, d4]; simp
    clear n1 n2 n3 n4 E
    go_enter Try.func35, Try.ntmps35
    go_wp2; go_ret; exact ⟨by rw [E2.out]; rfl, below_alloc _ _⟩
  have d4 : decide (po < 0) = false := by simpa using n4
  by_cases n5 : fl < 0
  · have d5 : decide (fl < 0) = true := by simpa using n5
    have E2 : Hid (hdOK ⟨ds, sr, pr, po, fl, la⟩ = false) := by show _ = _; rw [E.out, d5]; simp
    clear n1 n2 n3 n4 n5 E
    go_enter Try.func35, Try.ntmps35
    go_wp2; go_ret; exact ⟨by rw [E2.out]; rfl, below_alloc _ _⟩
  have d5 : decide (fl < 0) = false := by simpa using n5
  clear n1 n2 n3 n4 n5
  cases e1 : decide (ds < 65536)
  · have E2 : Hid (hdOK ⟨ds, sr, pr, po, fl, la⟩ = false) := by show _ = _; rw [E.out, e1]; simp
    clear E
    go_enter Try.func35, Try.ntmps35
    go_wp2; go_ret; exact ⟨by rw [E2.out]; rfl, below_alloc _ _⟩
  cases e2 : decide (sr < 65536)
  · have E2 : Hid (hdOK ⟨ds, sr, pr, po, fl, la⟩ = false) := by show _ = _; rw [E.out, e2]; simp
    clear E
    go_enter Try.func35, Try.ntmps35
    go_wp2; go_ret; exact ⟨by rw [E2.out]; rfl, below_alloc _ _⟩
  cases e3 : decide (pr < 256)
  · have E2 : Hid (hdOK ⟨ds, sr, pr, po, fl, la⟩ = false) := by show _ = _; rw [E.out, e3]; simp
    clear E
    go_enter Try.func35, Try.ntmps35
    go_wp2; go_ret; exact ⟨by rw [E2.out]; rfl, below_alloc _ _⟩
  cases e4 : decide (po < 65536)
  · have E2 : Hid (hdOK ⟨ds, sr, pr, po, fl, la⟩ = false) := by show _ = _; rw [E.out, e4]; simp
    clear E
    go_enter Try.func35, Try.ntmps35
    go_wp2; go_ret; exact ⟨by rw [E2.out]; rfl, below_alloc _ _⟩
  have E2 : Hid (hdOK ⟨ds, sr, pr, po, fl, la⟩ = decide (fl < 256)) := by show _ = _; rw [E.out, d1, d2, d3, d4, d5, e1, e2, e3, e4]; simp
  clear E
  cases e5 : decide (fl < 256)
  · rw [e5] at E2
    go_enter Try.func35, Try.ntmps35
    go_wp2; go_ret; exact ⟨by rw [E2.out]; rfl, below_alloc _ _⟩
  · rw [e5] at E2
    go_enter Try.func35, Try.ntmps35
    go_wp2; go_ret; exact ⟨by rw [E2.out]; rfl, below_alloc _ _⟩
end Go.Proofs.Ytkdcjcemeipkjaa
