import Derived.Test.YtkdcjcemeipkjaaRows
import Derived.Test.YtkdcjcemeipkjaaSpec
import Derived.WalkKit
import Derived.WalkSpells
import Derived.BigQuiet
import Derived.Deep.QuietTactic
namespace Go.Proofs.Ytkdcjcemeipkjaa
open Go.RowKit
set_option maxRecDepth 20000

theorem byteAt_any (s : ByteArray) (a : Int) (w : World) (h0 : 0 ≤ a) (hs : s.size ≤ 140737488351232) :
    Calls Try.prog 44 #[.string s, .int .i64 a] w fun e w' => e = .returned (.tuple #[.int .i64 (byt s a), .bool (decide (a < s.size))]) ∧ w = w' := by
  by_cases h : a < s.size
  · have e1 : byt s a = (s[a.toNat]'(by omega)).toNat := by unfold byt; rw [dif_pos (by omega)]
    have e2 : decide (a < s.size) = true := by simpa using h
    rw [e1, e2]
    clear e1 e2
    go_enter Try.func44, Try.ntmps44
    go_wp2
    go_ret2
    refine ⟨?_, rfl⟩
    show Ending.returned (.tuple #[.int .i64 (wrap64 _), .bool true]) = _
    rw [IntWalk.wrap64_in _ ⟨by omega, by have := (s[a.toNat]'(by omega)).toNat_lt; omega⟩]
  · have e1 : byt s a = 0 := by unfold byt; rw [dif_neg (by omega)]
    have e2 : decide (a < s.size) = false := by simpa using h
    rw [e1, e2]
    clear e1 e2
    go_enter Try.func44, Try.ntmps44
    go_wp2
    go_ret2
    exact ⟨rfl, rfl⟩

theorem hasPrefix_any (k : Int) (w : World) :
    Calls Try.prog 45 #[.int .i64 k] w fun e w' => e = .returned (.bool (hasP k)) ∧ w = w' := by
  by_cases h1 : k = 1
  · subst h1; go_enter Try.func45, Try.ntmps45; go_wp2; go_ret; exact ⟨rfl, rfl⟩
  by_cases h2 : k = 2
  · subst h2; go_enter Try.func45, Try.ntmps45; go_wp2; go_ret; exact ⟨rfl, rfl⟩
  have e1 : (k == 1) = false := by simpa using h1
  have e2 : (k == 2) = false := by simpa using h2
  have e : hasP k = false := by simp [hasP, h1, h2]
  rw [e]
  clear e
  go_enter Try.func45, Try.ntmps45; go_wp2; go_ret; exact ⟨by simp, rfl⟩

theorem hasTerms_any (k : Int) (w : World) :
    Calls Try.prog 47 #[.int .i64 k] w fun e w' => e = .returned (.bool (hasT k)) ∧ w = w' := by
  by_cases h1 : k = 3
  · subst h1; go_enter Try.func47, Try.ntmps47; go_wp2; go_ret; exact ⟨rfl, rfl⟩
  by_cases h2 : k = 4
  · subst h2; go_enter Try.func47, Try.ntmps47; go_wp2; go_ret; exact ⟨rfl, rfl⟩
  by_cases h3 : k = 5
  · subst h3; go_enter Try.func47, Try.ntmps47; go_wp2; go_ret; exact ⟨rfl, rfl⟩
  have e1 : (k == 3) = false := by simpa using h1
  have e2 : (k == 4) = false := by simpa using h2
  have e3 : (k == 5) = false := by simpa using h3
  have e : hasT k = false := by simp [hasT, h1, h2, h3]
  rw [e]
  clear e
  go_enter Try.func47, Try.ntmps47; go_wp2; go_ret; exact ⟨by simp, rfl⟩

theorem prefixBytes_any (k : Int) (w : World) :
    Calls Try.prog 63 #[.int .i64 k] w fun e w' => e = .returned (.int .i64 (pB k)) ∧ w = w' := by
  by_cases h1 : 8 < k
  · have e : pB k = 2 := by simp [pB, h1]
    rw [e]; clear e
    go_enter Try.func63, Try.ntmps63; go_wp2; go_ret; exact ⟨rfl, rfl⟩
  by_cases h2 : 0 < k
  · have e : pB k = 1 := by simp [pB, h1, h2]
    rw [e]; clear e
    go_enter Try.func63, Try.ntmps63; go_wp2; go_ret; exact ⟨rfl, rfl⟩
  have e : pB k = 0 := by simp [pB, h1, h2]
  rw [e]; clear e
  go_enter Try.func63, Try.ntmps63; go_wp2; go_ret; exact ⟨rfl, rfl⟩

theorem valueBytes_any (b : Bool) (w : World) :
    Calls Try.prog 67 #[.bool b] w fun e w' => e = .returned (.int .i64 (vB b)) ∧ w = w' := by
  cases b <;> (go_enter Try.func67, Try.ntmps67; go_wp2; go_ret; exact ⟨rfl, rfl⟩)

theorem opMarks_any (k : Int) (w : World) :
    Calls Try.prog 68 #[.int .i64 k] w fun e w' => e = .returned (.int .i64 (opM k)) ∧ w = w' := by
  unfold opM
  by_cases h : k = 5
  · subst h
    go_enter Try.func68, Try.ntmps68; go_wp2; go_ret; exact ⟨rfl, rfl⟩
  · rw [if_neg h]
    have h' : (k == 5) = false := by simpa using h
    go_enter Try.func68, Try.ntmps68; go_wp2; go_ret; exact ⟨rfl, rfl⟩

theorem a64 (m : Int) : decide (m / 64 % 2 = 1) = !decide (m / 64 % 2 = 0) := by
  by_cases h : m / 64 % 2 = 0
  · simp [h]
  · have : m / 64 % 2 = 1 := by omega
    simp [this]

theorem marksStand_any (m k : Int) (f : Bool) (w : World) (h0 : 0 ≤ m) (h1 : m ≤ 255) :
    Calls Try.prog 66 #[.int .i64 m, .int .i64 k, .bool f] w fun e w' => e = .returned (.bool (mOK m k f)) ∧ w = w' := by
  have e1 := andn5 m h0 h1
  have e2 := andn3 m h0 h1
  have e3 := and64z m h0 h1
  by_cases hk : k = 5
  · subst hk
    clear e2
    cases f
    all_goals
      cases hd : decide (m % 64 ≤ 3)
      all_goals
        rw [hd] at e1
        go_enter Try.func66, Try.ntmps66
        go_wp2
        go_ret
        refine ⟨?_, rfl⟩
        first | (simp [mOK, hd]; done) | (simp [mOK, hd, mAnd, a64]; done)
  · have h' : (k == 5) = false := by simpa using hk
    clear e1
    cases f
    all_goals
      cases hd : (decide (m % 16 < 8) && decide (m % 64 < 32))
      all_goals
        rw [hd] at e2
        go_enter Try.func66, Try.ntmps66
        go_wp2
        go_ret
        refine ⟨?_, rfl⟩
        simp only [mOK, if_neg hk, hd]
        first | (simp; done) | (simp [mAnd, a64]; done)
theorem maxValue_any (b : Bool) (w : World) :
    Calls Try.prog 81 #[.bool b] w fun e w' => e = .returned (.int .i64 (mxV b)) ∧ w = w' := by
  cases b <;> (go_enter Try.func81, Try.ntmps81; go_wp2; go_ret; exact ⟨rfl, rfl⟩)

theorem num_succ (s : ByteArray) (a : Int) (c : Nat) : num s a (c + 1) = num s a c * 256 + byt s (a + c) := rfl

theorem readNumber_ok (s : ByteArray) (a c : Int) (w : World) (h0 : 0 ≤ a) (hs : s.size ≤ 140737488351232) (ha : a ≤ 140737488351240) (c0 : 0 ≤ c) (c2 : c ≤ 2) (h : c = 0 ∨ a + c ≤ s.size) :
    Calls Try.prog 64 #[.string s, .int .i64 a, .int .i64 c] w fun e w' => e = .returned (.tuple #[.int .i64 (num s a c.toNat), .bool true]) ∧ w = w' := by
  go_enter Try.func64, Try.ntmps64
  go_wp2
  go_loop [8, 9] (fun t i => ∃ k : Nat, k ≤ c.toNat ∧ i = .int .i64 k ∧ t = .int .i64 (num s a k)) (fun _ i => c.toNat - (intOf i).toNat)
  case atStart => exact ⟨0, Nat.zero_le _, rfl, rfl⟩
  case round =>
    obtain ⟨k, hk, rfl, rfl⟩ := hrel
    have hb := num_bd s a k (by omega)
    have b0 := byt_nonneg s (a + k)
    have b1 := byt_le s (a + k)
    by_cases hlt : (k : Int) < c
    · have hd : decide (a + (k : Int) < s.size) = true := by simp; omega
      have h1 : k ≤ 1 := by omega
      have hb' := hb.2.2.1 h1
      go_wp2_with (go_at_call 44; refine (byteAt_any _ _ _ (by omega) hs).mono ?_; rintro e w' ⟨rfl, rfl⟩)
      go_round
      case rel => exact ⟨k + 1, by omega, by go_num, by rw [num_succ]⟩
      case measure => simp [intOf]; omega
    · have e : c.toNat = k := by omega
      go_wp2
      go_ret2
      exact ⟨rfl, rfl⟩

theorem readNumber_no (s : ByteArray) (a c : Int) (w : World) (h0 : 0 ≤ a) (hs : s.size ≤ 140737488351232) (ha : a ≤ 140737488351240) (c0 : 0 < c) (c2 : c ≤ 2) (h : s.size < a + c) :
    Calls Try.prog 64 #[.string s, .int .i64 a, .int .i64 c] w fun e w' => e = .returned (.tuple #[.int .i64 0, .bool false]) ∧ w = w' := by
  go_enter Try.func64, Try.ntmps64
  go_wp2
  go_loop [8, 9] (fun t i => ∃ k : Nat, (k : Int) < c ∧ i = .int .i64 k ∧ t = .int .i64 (num s a k)) (fun _ i => c.toNat - (intOf i).toNat)
  case atStart => exact ⟨0, c0, rfl, rfl⟩
  case round =>
    obtain ⟨k, hlt, rfl, rfl⟩ := hrel
    have hb := num_bd s a k (by omega)
    have b0 := byt_nonneg s (a + k)
    have b1 := byt_le s (a + k)
    have h1 : k ≤ 1 := by omega
    have hb' := hb.2.2.1 h1
    by_cases hin : a + (k : Int) < s.size
    · have hd : decide (a + (k : Int) < s.size) = true := by simpa using hin
      go_wp2_with (go_at_call 44; refine (byteAt_any _ _ _ (by omega) hs).mono ?_; rintro e w' ⟨rfl, rfl⟩)
      go_round
      case rel => exact ⟨k + 1, by omega, by go_num, by rw [num_succ]⟩
      case measure => simp [intOf]; omega
    · have hd : decide (a + (k : Int) < s.size) = false := by simpa using hin
      go_wp2_with (go_at_call 44; refine (byteAt_any _ _ _ (by omega) hs).mono ?_; rintro e w' ⟨rfl, rfl⟩)
      go_ret2
      exact ⟨rfl, rfl⟩
end Go.Proofs.Ytkdcjcemeipkjaa
