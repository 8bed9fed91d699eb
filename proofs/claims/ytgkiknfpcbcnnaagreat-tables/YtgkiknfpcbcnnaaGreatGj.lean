import Derived.Test.YtgkiknfpcbcnnaaGreatGi
namespace Go.Proofs.YtgkiknfpcbcnnaaGreat
open Go.RowKit
set_option maxRecDepth 20000
def dg (x : Nat) : ByteArray := if x % 2 = 1 then ⟨#[49]⟩ else ⟨#[48]⟩
def bin (v : Nat) : Nat → ByteArray
  | 0 => ⟨#[]⟩
  | n + 1 => dg (v / 2 ^ n) ++ bin v n
theorem dg_size (x : Nat) : (dg x).size = 1 := by unfold dg; split <;> rfl
theorem bin_size (v : Nat) : ∀ n, (bin v n).size = n := by
  intro n
  induction n with
  | zero => rfl
  | succ n ih => simp only [bin, ByteArray.size_append, dg_size, ih]; omega
set_option maxHeartbeats 400000 in
theorem binary_any (v : Nat) (n : Nat) (w : World) (hv : v ≤ 65535) (hn : n ≤ 16) :
    Calls Tryz.prog 78 #[.int .i64 v, .int .i64 n] w fun e w' => e = .returned (.string (bin v n)) ∧ w = w' := by
  go_enter Tryz.func78, Tryz.ntmps78
  go_wp2
  go_loop [0, 5, 6] (fun x s i => ∃ j : Nat, j ≤ n ∧ x = .int .i64 ((v / 2 ^ j : Nat) : Int) ∧ s = .string (bin v j) ∧ i = .int .i64 j) (fun _ _ i => n - (intOf i).toNat)
  case atStart => exact ⟨0, Nat.zero_le _, by simp, rfl, rfl⟩
  case round =>
    obtain ⟨j, hj, rfl, rfl, rfl⟩ := hrel
    have hs := bin_size v j
    have hd : v / 2 ^ j ≤ v := Nat.div_le_self _ _
    have hh : v / 2 ^ j / 2 = v / 2 ^ (j + 1) := by rw [Nat.div_div_eq_div_mul, Nat.pow_succ]
    have hb : bin v (j + 1) = dg (v / 2 ^ j) ++ bin v j := rfl
    by_cases hlt : j < n
    · generalize hx : v / 2 ^ j = x at *
      generalize hy : bin v j = s at *
      have HN : Hid (bin v (j + 1) = dg x ++ s) := hb
      have HH : Hid (x / 2 = v / 2 ^ (j + 1)) := hh
      clear hb hh hx hy
      by_cases h1 : x % 2 = 1
      · have hd2 : ((x : Int) % 2 == 1) = true := by simp; omega
        have HD : Hid (dg x = ⟨#[49]⟩) := by show dg x = _; unfold dg; rw [if_pos h1]
        go_wp2
        go_round
        case rel => exact ⟨j + 1, by omega, by rw [← HH.out]; simp, by rw [HN.out, HD.out], by go_num⟩
        case measure => simp [intOf]; omega
      · have hd2 : ((x : Int) % 2 == 1) = false := by simp; omega
        have HD : Hid (dg x = ⟨#[48]⟩) := by show dg x = _; unfold dg; rw [if_neg h1]
        go_wp2
        go_round
        case rel => exact ⟨j + 1, by omega, by rw [← HH.out]; simp, by rw [HN.out, HD.out], by go_num⟩
        case measure => simp [intOf]; omega
    · have : j = n := by omega
      subst this
      clear hb hh
      go_wp2
      go_ret
      exact ⟨rfl, rfl⟩
set_option maxHeartbeats 1600000 in
theorem headerOK_any (h : Hd) (w : World) :
    Calls Tryz.prog 62 #[.agg #[.int .i64 h.ds, .int .i64 h.sr, .int .i64 h.pr, .int .i64 h.po, .int .i64 h.fl, .bool h.la]] w fun e w' => e = .returned (.bool (hdOK h)) ∧ Below w.heap.size w w' := by
  obtain ⟨ds, sr, pr, po, fl, la⟩ := h
  have E : Hid (hdOK ⟨ds, sr, pr, po, fl, la⟩ = (!(decide (ds < 0) || decide (sr < 0) || decide (pr < 0) || decide (po < 0) || decide (fl < 0)) && (decide (ds < 65536) && decide (sr < 65536) && decide (pr < 256) && decide (po < 65536) && decide (fl < 256)))) := by
    show _ = _
    unfold hdOK isN
    simp only []
    rw [Bool.eq_iff_iff]
    simp only [Bool.and_eq_true, Bool.not_eq_true', Bool.or_eq_false_iff, decide_eq_true_eq, decide_eq_false_iff_not]
    omega
  simp only []
  by_cases n1 : ds < 0
  · have d1 : decide (ds < 0) = true := by simpa using n1
    have E2 : Hid (hdOK ⟨ds, sr, pr, po, fl, la⟩ = false) := by show _ = _; rw [E.out, d1]; rfl
    clear n1 E
    go_enter Tryz.func62, Tryz.ntmps62
    go_wp2; go_ret; exact ⟨by rw [E2.out]; rfl, below_alloc _ _⟩
  have d1 : decide (ds < 0) = false := by simpa using n1
  by_cases n2 : sr < 0
  · have d2 : decide (sr < 0) = true := by simpa using n2
    have E2 : Hid (hdOK ⟨ds, sr, pr, po, fl, la⟩ = false) := by show _ = _; rw [E.out, d2]; simp
    clear n1 n2 E
    go_enter Tryz.func62, Tryz.ntmps62
    go_wp2; go_ret; exact ⟨by rw [E2.out]; rfl, below_alloc _ _⟩
  have d2 : decide (sr < 0) = false := by simpa using n2
  by_cases n3 : pr < 0
  · have d3 : decide (pr < 0) = true := by simpa using n3
    have E2 : Hid (hdOK ⟨ds, sr, pr, po, fl, la⟩ = false) := by show _ = _; rw [E.out, d3]; simp
    clear n1 n2 n3 E
    go_enter Tryz.func62, Tryz.ntmps62
    go_wp2; go_ret; exact ⟨by rw [E2.out]; rfl, below_alloc _ _⟩
  have d3 : decide (pr < 0) = false := by simpa using n3
  by_cases n4 : po < 0
  · have d4 : decide (po < 0) = true := by simpa using n4
    have E2 : Hid (hdOK ⟨ds, sr, pr, po, fl, la⟩ = false) := by show _ = _; rw [E.out, d4]; simp
    clear n1 n2 n3 n4 E
    go_enter Tryz.func62, Tryz.ntmps62
    go_wp2; go_ret; exact ⟨by rw [E2.out]; rfl, below_alloc _ _⟩
  have d4 : decide (po < 0) = false := by simpa using n4
  by_cases n5 : fl < 0
  · have d5 : decide (fl < 0) = true := by simpa using n5
    have E2 : Hid (hdOK ⟨ds, sr, pr, po, fl, la⟩ = false) := by show _ = _; rw [E.out, d5]; simp
    clear n1 n2 n3 n4 n5 E
    go_enter Tryz.func62, Tryz.ntmps62
    go_wp2; go_ret; exact ⟨by rw [E2.out]; rfl, below_alloc _ _⟩
  have d5 : decide (fl < 0) = false := by simpa using n5
  clear n1 n2 n3 n4 n5
  cases e1 : decide (ds < 65536)
  · have E2 : Hid (hdOK ⟨ds, sr, pr, po, fl, la⟩ = false) := by show _ = _; rw [E.out, e1]; simp
    clear E
    go_enter Tryz.func62, Tryz.ntmps62
    go_wp2; go_ret; exact ⟨by rw [E2.out]; rfl, below_alloc _ _⟩
  cases e2 : decide (sr < 65536)
  · have E2 : Hid (hdOK ⟨ds, sr, pr, po, fl, la⟩ = false) := by show _ = _; rw [E.out, e2]; simp
    clear E
    go_enter Tryz.func62, Tryz.ntmps62
    go_wp2; go_ret; exact ⟨by rw [E2.out]; rfl, below_alloc _ _⟩
  cases e3 : decide (pr < 256)
  · have E2 : Hid (hdOK ⟨ds, sr, pr, po, fl, la⟩ = false) := by show _ = _; rw [E.out, e3]; simp
    clear E
    go_enter Tryz.func62, Tryz.ntmps62
    go_wp2; go_ret; exact ⟨by rw [E2.out]; rfl, below_alloc _ _⟩
  cases e4 : decide (po < 65536)
  · have E2 : Hid (hdOK ⟨ds, sr, pr, po, fl, la⟩ = false) := by show _ = _; rw [E.out, e4]; simp
    clear E
    go_enter Tryz.func62, Tryz.ntmps62
    go_wp2; go_ret; exact ⟨by rw [E2.out]; rfl, below_alloc _ _⟩
  have E2 : Hid (hdOK ⟨ds, sr, pr, po, fl, la⟩ = decide (fl < 256)) := by show _ = _; rw [E.out, d1, d2, d3, d4, d5, e1, e2, e3, e4]; simp
  clear E
  cases e5 : decide (fl < 256)
  · rw [e5] at E2
    go_enter Tryz.func62, Tryz.ntmps62
    go_wp2; go_ret; exact ⟨by rw [E2.out]; rfl, below_alloc _ _⟩
  · rw [e5] at E2
    go_enter Tryz.func62, Tryz.ntmps62
    go_wp2; go_ret; exact ⟨by rw [E2.out]; rfl, below_alloc _ _⟩
end Go.Proofs.YtgkiknfpcbcnnaaGreat
namespace Go.Proofs.YtgkiknfpcbcnnaaGreat
open Go.RowKit
set_option maxRecDepth 20000
theorem metN_bd (v vl : Nat) : ∀ n, askN vl n ≤ n ∧ metN v vl n ≤ n := by
  intro n
  have := metN_le v vl n
  have h2 : askN vl n ≤ n := by
    clear this
    induction n with
    | zero => simp [askN]
    | succ n ih => simp only [askN]; split <;> omega
  omega
theorem met_yes {v vl j : Nat} (h : vl / 2 ^ j % 2 = 1) : metN v vl (j + 1) = metN v vl j + v / 2 ^ j % 2 ∧ askN vl (j + 1) = askN vl j + 1 := by
  constructor <;> simp only [metN, askN, if_pos h]
theorem met_no {v vl j : Nat} (h : ¬ vl / 2 ^ j % 2 = 1) : metN v vl (j + 1) = metN v vl j ∧ askN vl (j + 1) = askN vl j := by
  constructor <;> simp only [metN, askN, if_neg h, Nat.add_zero]
theorem pow_cases {j : Nat} {b : Int} (hj : j ≤ 8) (h8 : ¬ j = 8) (hb : b = (2 : Int) ^ j) : (j = 0 ∧ b = 1) ∨ (j = 1 ∧ b = 2) ∨ (j = 2 ∧ b = 4) ∨ (j = 3 ∧ b = 8) ∨ (j = 4 ∧ b = 16) ∨ (j = 5 ∧ b = 32) ∨ (j = 6 ∧ b = 64) ∨ (j = 7 ∧ b = 128) := by
  subst hb
  have hc : j = 0 ∨ j = 1 ∨ j = 2 ∨ j = 3 ∨ j = 4 ∨ j = 5 ∨ j = 6 ∨ j = 7 := by omega
  rcases hc with rfl | rfl | rfl | rfl | rfl | rfl | rfl | rfl <;> decide
theorem beq_cast (m a : Nat) : ((m : Int) == (a : Int)) = decide (m = a) := by
  by_cases h : m = a
  · simp [h]
  · rw [decide_eq_false h]; exact beq_eq_false_iff_ne.2 (by omega)
set_option maxHeartbeats 1600000 in
theorem term_flags (an wd : Bool) (op : Int) (vl v : Nat) (w : World) (o0 : 0 ≤ op) (o1 : op ≤ 3) (hl : vl ≤ 255) (hv : v ≤ 255) :
    Calls Tryz.prog 146 #[.int .i64 5, .agg #[.bool an, .bool wd, .int .i64 op, .int .i64 vl], .int .i64 v] w fun e w' => e = .returned (.bool (fH op vl v)) ∧ Below w.heap.size w w' := by
  have E : Hid (fY op vl v = if op % 2 = 1 then decide (metN v vl 8 = askN vl 8) else decide (0 < metN v vl 8)) := fY_met op v vl hv hl
  go_enter Tryz.func146, Tryz.ntmps146
  go_wp2
  go_loop [7, 8, 9] (fun x y z => ∃ (j : Nat) (b : Int), j ≤ 8 ∧ b = (2 : Int) ^ j ∧ x = .int .i64 (metN v vl j) ∧ y = .int .i64 (askN vl j) ∧ z = .int .i64 b) (fun _ _ z => (256 - intOf z).toNat)
  case atStart => exact ⟨0, 1, by omega, rfl, rfl, rfl, rfl⟩
  case round =>
    obtain ⟨j, b, hj, hb, rfl, rfl, rfl⟩ := hrel
    have hmb := metN_bd v vl j
    by_cases h8 : j = 8
    · subst h8
      have hb' : b = 256 := hb
      subst hb'
      clear hb
      generalize metN v vl 8 = m at *
      generalize askN vl 8 = a at *
      have ho : op = 0 ∨ op = 1 ∨ op = 2 ∨ op = 3 := by omega
      rcases ho with rfl | rfl | rfl | rfl
      · have E2 : Hid (fH 0 vl v = decide (0 < m)) := by show _ = _; unfold fH; rw [E.out]; rfl
        clear E
        go_wp2
        go_ret
        exact ⟨by rw [E2.out]; simp, below_alloc _ _⟩
      · have E2 : Hid (fH 1 vl v = ((m : Int) == (a : Int))) := by show _ = _; unfold fH; rw [E.out, beq_cast]; rfl
        clear E
        go_wp2
        go_ret
        exact ⟨by rw [E2.out]; simp, below_alloc _ _⟩
      · have E2 : Hid (fH 2 vl v = !decide (0 < m)) := by show _ = _; unfold fH; rw [E.out]; rfl
        clear E
        go_wp2
        go_ret
        exact ⟨by rw [E2.out]; simp, below_alloc _ _⟩
      · have E2 : Hid (fH 3 vl v = !((m : Int) == (a : Int))) := by show _ = _; unfold fH; rw [E.out, beq_cast]; rfl
        clear E
        go_wp2
        go_ret
        exact ⟨by rw [E2.out]; simp, below_alloc _ _⟩
    · clear E
      by_cases h1 : vl / 2 ^ j % 2 = 1
      · obtain ⟨HM, HA⟩ := met_yes (v := v) h1
        have HM' : Hid (metN v vl (j + 1) = metN v vl j + v / 2 ^ j % 2) := HM
        have HA' : Hid (askN vl (j + 1) = askN vl j + 1) := HA
        clear HM HA
        generalize hm : metN v vl j = m at *
        generalize ha : askN vl j = a at *
        clear hm ha
        have hc : (j = 0 ∧ b = 1) ∨ (j = 1 ∧ b = 2) ∨ (j = 2 ∧ b = 4) ∨ (j = 3 ∧ b = 8) ∨ (j = 4 ∧ b = 16) ∨ (j = 5 ∧ b = 32) ∨ (j = 6 ∧ b = 64) ∨ (j = 7 ∧ b = 128) := pow_cases hj h8 hb
        clear h8 hb
        rcases hc with ⟨hj', rfl⟩ | ⟨hj', rfl⟩ | ⟨hj', rfl⟩ | ⟨hj', rfl⟩ | ⟨hj', rfl⟩ | ⟨hj', rfl⟩ | ⟨hj', rfl⟩ | ⟨hj', rfl⟩
        all_goals
          rw [hj'] at h1
          simp only [Nat.reducePow, Nat.pow_zero] at h1
          go_wp2
          go_round
          case rel => exact ⟨j + 1, _, by omega, by rw [hj']; rfl, by rw [HM'.out, hj']; simp, by rw [HA'.out]; simp, rfl⟩
          case measure => simp [intOf]
      · obtain ⟨HM, HA⟩ := met_no (v := v) h1
        have HM' : Hid (metN v vl (j + 1) = metN v vl j) := HM
        have HA' : Hid (askN vl (j + 1) = askN vl j) := HA
        clear HM HA
        generalize hm : metN v vl j = m at *
        generalize ha : askN vl j = a at *
        clear hm ha
        have hc : (j = 0 ∧ b = 1) ∨ (j = 1 ∧ b = 2) ∨ (j = 2 ∧ b = 4) ∨ (j = 3 ∧ b = 8) ∨ (j = 4 ∧ b = 16) ∨ (j = 5 ∧ b = 32) ∨ (j = 6 ∧ b = 64) ∨ (j = 7 ∧ b = 128) := pow_cases hj h8 hb
        clear h8 hb
        rcases hc with ⟨hj', rfl⟩ | ⟨hj', rfl⟩ | ⟨hj', rfl⟩ | ⟨hj', rfl⟩ | ⟨hj', rfl⟩ | ⟨hj', rfl⟩ | ⟨hj', rfl⟩ | ⟨hj', rfl⟩
        all_goals
          rw [hj'] at h1
          simp only [Nat.reducePow, Nat.pow_zero] at h1
          go_wp2
          go_round
          case rel => exact ⟨j + 1, _, by omega, by rw [hj']; rfl, by rw [HM'.out], by rw [HA'.out], rfl⟩
          case measure => simp [intOf]
end Go.Proofs.YtgkiknfpcbcnnaaGreat
namespace Go.Proofs.YtgkiknfpcbcnnaaGreat
open Go.RowKit
set_option maxRecDepth 20000
set_option maxHeartbeats 1600000 in
theorem term_num (an wd : Bool) (op vl k v : Int) (w : World) (hk : (k == 5) = false) (o0 : 0 ≤ op) (o1 : op ≤ 7) :
    Calls Tryz.prog 146 #[.int .i64 k, .agg #[.bool an, .bool wd, .int .i64 op, .int .i64 vl], .int .i64 v] w fun e w' => e = .returned (.bool (tH op vl v)) ∧ Below w.heap.size w w' := by
  have ho : op = 0 ∨ op = 1 ∨ op = 2 ∨ op = 3 ∨ op = 4 ∨ op = 5 ∨ op = 6 ∨ op = 7 := by omega
  have hv : v < vl ∨ v = vl ∨ vl < v := by omega
  rcases hv with hv | rfl | hv
  · have d1 : decide (v < vl) = true := by simpa using hv
    have d2 : decide (vl < v) = false := by simp; omega
    have d3 : (v == vl) = false := by simp; omega
    have d4 : ¬ v = vl := by omega
    rcases ho with rfl | rfl | rfl | rfl | rfl | rfl | rfl | rfl
    all_goals
      unfold tH
      rw [d1, d2, decide_eq_false d4]
      clear d4
      go_enter Tryz.func146, Tryz.ntmps146
      go_wp2
      go_ret
      exact ⟨rfl, below_alloc _ _⟩
  · have d1 : decide (v < v) = false := by simp
    have d3 : (v == v) = true := by simp
    rcases ho with rfl | rfl | rfl | rfl | rfl | rfl | rfl | rfl
    all_goals
      unfold tH
      rw [d1]
      go_enter Tryz.func146, Tryz.ntmps146
      go_wp2
      go_ret
      exact ⟨rfl, below_alloc _ _⟩
  · have d1 : decide (v < vl) = false := by simp; omega
    have d2 : decide (vl < v) = true := by simpa using hv
    have d3 : (v == vl) = false := by simp; omega
    have d4 : ¬ v = vl := by omega
    rcases ho with rfl | rfl | rfl | rfl | rfl | rfl | rfl | rfl
    all_goals
      unfold tH
      rw [d1, d2, decide_eq_false d4]
      clear d4
      go_enter Tryz.func146, Tryz.ntmps146
      go_wp2
      go_ret
      exact ⟨rfl, below_alloc _ _⟩
end Go.Proofs.YtgkiknfpcbcnnaaGreat
