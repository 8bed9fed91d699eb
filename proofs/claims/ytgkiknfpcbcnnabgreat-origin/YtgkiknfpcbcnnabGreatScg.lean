import Derived.Test.YtgkiknfpcbcnnabGreatLbb
import Derived.Test.YtgkiknfpcbcnnabGreatGr
import Derived.Test.YtgkiknfpcbcnnabGreatGaa
namespace Go.Proofs.YtgkiknfpcbcnnabGreat
open Go.RowKit
set_option maxRecDepth 20000

theorem two_allocs (w : World) (a b : Obj) : Below w.heap.size w ((w.alloc a).alloc b) := (below_alloc w _).alloc (by simp) _
set_option maxHeartbeats 6400000 in
theorem within_any (pb qb ql : Int) (k : Nat) (w : World) (hk : k ≤ 16) (hp0 : 0 ≤ pb) (hp1 : pb ≤ 65535) (hq0 : 0 ≤ qb) (hq1 : qb ≤ 65535) (hl0 : 0 ≤ ql) :
    Calls Tryz.prog 33 #[.agg #[.int .i64 pb, .int .i64 (k : Int)], .agg #[.int .i64 qb, .int .i64 ql]] w fun e w' => e = .returned (.bool (decide ((k : Int) ≤ ql) && decide (qb / ((2 ^ (16 - k) : Nat) : Int) = pb / ((2 ^ (16 - k) : Nat) : Int)))) ∧ Below w.heap.size w w' := by
  obtain ⟨R, hR⟩ : ∃ R, R = (decide ((k : Int) ≤ ql) && decide (qb / ((2 ^ (16 - k) : Nat) : Int) = pb / ((2 ^ (16 - k) : Nat) : Int))) := ⟨_, rfl⟩
  have HR0 : Hid (R = (decide ((k : Int) ≤ ql) && decide (qb / ((2 ^ (16 - k) : Nat) : Int) = pb / ((2 ^ (16 - k) : Nat) : Int)))) := hR
  rw [← hR]
  clear hR
  obtain rfl | rfl | rfl | rfl | rfl | rfl | rfl | rfl | rfl | rfl | rfl | rfl | rfl | rfl | rfl | rfl | rfl : k = 0 ∨ k = 1 ∨ k = 2 ∨ k = 3 ∨ k = 4 ∨ k = 5 ∨ k = 6 ∨ k = 7 ∨ k = 8 ∨ k = 9 ∨ k = 10 ∨ k = 11 ∨ k = 12 ∨ k = 13 ∨ k = 14 ∨ k = 15 ∨ k = 16 := by omega
  · have HR : Hid (R = (decide ((0 : Int) ≤ ql) && decide (qb / 65536 = pb / 65536))) := HR0
    clear HR0
    by_cases h1 : (0 : Int) ≤ ql
    · have q1 : decide ((0 : Int) ≤ ql) = true := by simpa using h1
      by_cases h2 : qb / 65536 = pb / 65536
      · have HT : Hid (R = true) := by show _ = _; rw [HR.out, q1, decide_eq_true h2]; rfl
        have q2 : (qb / 65536 == pb / 65536) = true := by simpa using h2
        clear HR h1 h2
        go_enter Tryz.func33, Tryz.ntmps33
        go_wp2_with fail
        go_quiet (fail)
        go_wp2_with fail
        go_ret
        exact ⟨by rw [HT.out]; rfl, below_drewN (two_allocs w _ _) _⟩
      · have HT : Hid (R = false) := by show _ = _; rw [HR.out, q1, decide_eq_false h2]; rfl
        have q2 : (qb / 65536 == pb / 65536) = false := by simpa using h2
        clear HR h1 h2
        go_enter Tryz.func33, Tryz.ntmps33
        go_wp2_with fail
        go_quiet (fail)
        go_wp2_with fail
        go_ret
        exact ⟨by rw [HT.out]; rfl, below_drewN (two_allocs w _ _) _⟩
    · exact absurd hl0 h1
  · have HR : Hid (R = (decide ((1 : Int) ≤ ql) && decide (qb / 32768 = pb / 32768))) := HR0
    clear HR0
    by_cases h1 : (1 : Int) ≤ ql
    · have q1 : decide ((1 : Int) ≤ ql) = true := by simpa using h1
      by_cases h2 : qb / 32768 = pb / 32768
      · have HT : Hid (R = true) := by show _ = _; rw [HR.out, q1, decide_eq_true h2]; rfl
        have q2 : (qb / 32768 == pb / 32768) = true := by simpa using h2
        clear HR h1 h2
        go_enter Tryz.func33, Tryz.ntmps33
        go_wp2_with fail
        go_quiet (fail)
        go_wp2_with fail
        go_ret
        exact ⟨by rw [HT.out]; rfl, below_drewN (two_allocs w _ _) _⟩
      · have HT : Hid (R = false) := by show _ = _; rw [HR.out, q1, decide_eq_false h2]; rfl
        have q2 : (qb / 32768 == pb / 32768) = false := by simpa using h2
        clear HR h1 h2
        go_enter Tryz.func33, Tryz.ntmps33
        go_wp2_with fail
        go_quiet (fail)
        go_wp2_with fail
        go_ret
        exact ⟨by rw [HT.out]; rfl, below_drewN (two_allocs w _ _) _⟩
    · have q1 : decide ((1 : Int) ≤ ql) = false := by simpa using h1
      have HT : Hid (R = false) := by show _ = _; rw [HR.out, q1]; rfl
      clear HR h1
      go_enter Tryz.func33, Tryz.ntmps33
      go_wp2_with fail
      go_quiet (fail)
      go_wp2_with fail
      go_ret
      exact ⟨by rw [HT.out]; rfl, below_drewN (two_allocs w _ _) _⟩
  · have HR : Hid (R = (decide ((2 : Int) ≤ ql) && decide (qb / 16384 = pb / 16384))) := HR0
    clear HR0
    by_cases h1 : (2 : Int) ≤ ql
    · have q1 : decide ((2 : Int) ≤ ql) = true := by simpa using h1
      by_cases h2 : qb / 16384 = pb / 16384
      · have HT : Hid (R = true) := by show _ = _; rw [HR.out, q1, decide_eq_true h2]; rfl
        have q2 : (qb / 16384 == pb / 16384) = true := by simpa using h2
        clear HR h1 h2
        go_enter Tryz.func33, Tryz.ntmps33
        go_wp2_with fail
        go_quiet (fail)
        go_wp2_with fail
        go_ret
        exact ⟨by rw [HT.out]; rfl, below_drewN (two_allocs w _ _) _⟩
      · have HT : Hid (R = false) := by show _ = _; rw [HR.out, q1, decide_eq_false h2]; rfl
        have q2 : (qb / 16384 == pb / 16384) = false := by simpa using h2
        clear HR h1 h2
        go_enter Tryz.func33, Tryz.ntmps33
        go_wp2_with fail
        go_quiet (fail)
        go_wp2_with fail
        go_ret
        exact ⟨by rw [HT.out]; rfl, below_drewN (two_allocs w _ _) _⟩
    · have q1 : decide ((2 : Int) ≤ ql) = false := by simpa using h1
      have HT : Hid (R = false) := by show _ = _; rw [HR.out, q1]; rfl
      clear HR h1
      go_enter Tryz.func33, Tryz.ntmps33
      go_wp2_with fail
      go_quiet (fail)
      go_wp2_with fail
      go_ret
      exact ⟨by rw [HT.out]; rfl, below_drewN (two_allocs w _ _) _⟩
  · have HR : Hid (R = (decide ((3 : Int) ≤ ql) && decide (qb / 8192 = pb / 8192))) := HR0
    clear HR0
    by_cases h1 : (3 : Int) ≤ ql
    · have q1 : decide ((3 : Int) ≤ ql) = true := by simpa using h1
      by_cases h2 : qb / 8192 = pb / 8192
      · have HT : Hid (R = true) := by show _ = _; rw [HR.out, q1, decide_eq_true h2]; rfl
        have q2 : (qb / 8192 == pb / 8192) = true := by simpa using h2
        clear HR h1 h2
        go_enter Tryz.func33, Tryz.ntmps33
        go_wp2_with fail
        go_quiet (fail)
        go_wp2_with fail
        go_ret
        exact ⟨by rw [HT.out]; rfl, below_drewN (two_allocs w _ _) _⟩
      · have HT : Hid (R = false) := by show _ = _; rw [HR.out, q1, decide_eq_false h2]; rfl
        have q2 : (qb / 8192 == pb / 8192) = false := by simpa using h2
        clear HR h1 h2
        go_enter Tryz.func33, Tryz.ntmps33
        go_wp2_with fail
        go_quiet (fail)
        go_wp2_with fail
        go_ret
        exact ⟨by rw [HT.out]; rfl, below_drewN (two_allocs w _ _) _⟩
    · have q1 : decide ((3 : Int) ≤ ql) = false := by simpa using h1
      have HT : Hid (R = false) := by show _ = _; rw [HR.out, q1]; rfl
      clear HR h1
      go_enter Tryz.func33, Tryz.ntmps33
      go_wp2_with fail
      go_quiet (fail)
      go_wp2_with fail
      go_ret
      exact ⟨by rw [HT.out]; rfl, below_drewN (two_allocs w _ _) _⟩
  · have HR : Hid (R = (decide ((4 : Int) ≤ ql) && decide (qb / 4096 = pb / 4096))) := HR0
    clear HR0
    by_cases h1 : (4 : Int) ≤ ql
    · have q1 : decide ((4 : Int) ≤ ql) = true := by simpa using h1
      by_cases h2 : qb / 4096 = pb / 4096
      · have HT : Hid (R = true) := by show _ = _; rw [HR.out, q1, decide_eq_true h2]; rfl
        have q2 : (qb / 4096 == pb / 4096) = true := by simpa using h2
        clear HR h1 h2
        go_enter Tryz.func33, Tryz.ntmps33
        go_wp2_with fail
        go_quiet (fail)
        go_wp2_with fail
        go_ret
        exact ⟨by rw [HT.out]; rfl, below_drewN (two_allocs w _ _) _⟩
      · have HT : Hid (R = false) := by show _ = _; rw [HR.out, q1, decide_eq_false h2]; rfl
        have q2 : (qb / 4096 == pb / 4096) = false := by simpa using h2
        clear HR h1 h2
        go_enter Tryz.func33, Tryz.ntmps33
        go_wp2_with fail
        go_quiet (fail)
        go_wp2_with fail
        go_ret
        exact ⟨by rw [HT.out]; rfl, below_drewN (two_allocs w _ _) _⟩
    · have q1 : decide ((4 : Int) ≤ ql) = false := by simpa using h1
      have HT : Hid (R = false) := by show _ = _; rw [HR.out, q1]; rfl
      clear HR h1
      go_enter Tryz.func33, Tryz.ntmps33
      go_wp2_with fail
      go_quiet (fail)
      go_wp2_with fail
      go_ret
      exact ⟨by rw [HT.out]; rfl, below_drewN (two_allocs w _ _) _⟩
  · have HR : Hid (R = (decide ((5 : Int) ≤ ql) && decide (qb / 2048 = pb / 2048))) := HR0
    clear HR0
    by_cases h1 : (5 : Int) ≤ ql
    · have q1 : decide ((5 : Int) ≤ ql) = true := by simpa using h1
      by_cases h2 : qb / 2048 = pb / 2048
      · have HT : Hid (R = true) := by show _ = _; rw [HR.out, q1, decide_eq_true h2]; rfl
        have q2 : (qb / 2048 == pb / 2048) = true := by simpa using h2
        clear HR h1 h2
        go_enter Tryz.func33, Tryz.ntmps33
        go_wp2_with fail
        go_quiet (fail)
        go_wp2_with fail
        go_ret
        exact ⟨by rw [HT.out]; rfl, below_drewN (two_allocs w _ _) _⟩
      · have HT : Hid (R = false) := by show _ = _; rw [HR.out, q1, decide_eq_false h2]; rfl
        have q2 : (qb / 2048 == pb / 2048) = false := by simpa using h2
        clear HR h1 h2
        go_enter Tryz.func33, Tryz.ntmps33
        go_wp2_with fail
        go_quiet (fail)
        go_wp2_with fail
        go_ret
        exact ⟨by rw [HT.out]; rfl, below_drewN (two_allocs w _ _) _⟩
    · have q1 : decide ((5 : Int) ≤ ql) = false := by simpa using h1
      have HT : Hid (R = false) := by show _ = _; rw [HR.out, q1]; rfl
      clear HR h1
      go_enter Tryz.func33, Tryz.ntmps33
      go_wp2_with fail
      go_quiet (fail)
      go_wp2_with fail
      go_ret
      exact ⟨by rw [HT.out]; rfl, below_drewN (two_allocs w _ _) _⟩
  · have HR : Hid (R = (decide ((6 : Int) ≤ ql) && decide (qb / 1024 = pb / 1024))) := HR0
    clear HR0
    by_cases h1 : (6 : Int) ≤ ql
    · have q1 : decide ((6 : Int) ≤ ql) = true := by simpa using h1
      by_cases h2 : qb / 1024 = pb / 1024
      · have HT : Hid (R = true) := by show _ = _; rw [HR.out, q1, decide_eq_true h2]; rfl
        have q2 : (qb / 1024 == pb / 1024) = true := by simpa using h2
        clear HR h1 h2
        go_enter Tryz.func33, Tryz.ntmps33
        go_wp2_with fail
        go_quiet (fail)
        go_wp2_with fail
        go_ret
        exact ⟨by rw [HT.out]; rfl, below_drewN (two_allocs w _ _) _⟩
      · have HT : Hid (R = false) := by show _ = _; rw [HR.out, q1, decide_eq_false h2]; rfl
        have q2 : (qb / 1024 == pb / 1024) = false := by simpa using h2
        clear HR h1 h2
        go_enter Tryz.func33, Tryz.ntmps33
        go_wp2_with fail
        go_quiet (fail)
        go_wp2_with fail
        go_ret
        exact ⟨by rw [HT.out]; rfl, below_drewN (two_allocs w _ _) _⟩
    · have q1 : decide ((6 : Int) ≤ ql) = false := by simpa using h1
      have HT : Hid (R = false) := by show _ = _; rw [HR.out, q1]; rfl
      clear HR h1
      go_enter Tryz.func33, Tryz.ntmps33
      go_wp2_with fail
      go_quiet (fail)
      go_wp2_with fail
      go_ret
      exact ⟨by rw [HT.out]; rfl, below_drewN (two_allocs w _ _) _⟩
  · have HR : Hid (R = (decide ((7 : Int) ≤ ql) && decide (qb / 512 = pb / 512))) := HR0
    clear HR0
    by_cases h1 : (7 : Int) ≤ ql
    · have q1 : decide ((7 : Int) ≤ ql) = true := by simpa using h1
      by_cases h2 : qb / 512 = pb / 512
      · have HT : Hid (R = true) := by show _ = _; rw [HR.out, q1, decide_eq_true h2]; rfl
        have q2 : (qb / 512 == pb / 512) = true := by simpa using h2
        clear HR h1 h2
        go_enter Tryz.func33, Tryz.ntmps33
        go_wp2_with fail
        go_quiet (fail)
        go_wp2_with fail
        go_ret
        exact ⟨by rw [HT.out]; rfl, below_drewN (two_allocs w _ _) _⟩
      · have HT : Hid (R = false) := by show _ = _; rw [HR.out, q1, decide_eq_false h2]; rfl
        have q2 : (qb / 512 == pb / 512) = false := by simpa using h2
        clear HR h1 h2
        go_enter Tryz.func33, Tryz.ntmps33
        go_wp2_with fail
        go_quiet (fail)
        go_wp2_with fail
        go_ret
        exact ⟨by rw [HT.out]; rfl, below_drewN (two_allocs w _ _) _⟩
    · have q1 : decide ((7 : Int) ≤ ql) = false := by simpa using h1
      have HT : Hid (R = false) := by show _ = _; rw [HR.out, q1]; rfl
      clear HR h1
      go_enter Tryz.func33, Tryz.ntmps33
      go_wp2_with fail
      go_quiet (fail)
      go_wp2_with fail
      go_ret
      exact ⟨by rw [HT.out]; rfl, below_drewN (two_allocs w _ _) _⟩
  · have HR : Hid (R = (decide ((8 : Int) ≤ ql) && decide (qb / 256 = pb / 256))) := HR0
    clear HR0
    by_cases h1 : (8 : Int) ≤ ql
    · have q1 : decide ((8 : Int) ≤ ql) = true := by simpa using h1
      by_cases h2 : qb / 256 = pb / 256
      · have HT : Hid (R = true) := by show _ = _; rw [HR.out, q1, decide_eq_true h2]; rfl
        have q2 : (qb / 256 == pb / 256) = true := by simpa using h2
        clear HR h1 h2
        go_enter Tryz.func33, Tryz.ntmps33
        go_wp2_with fail
        go_quiet (fail)
        go_wp2_with fail
        go_ret
        exact ⟨by rw [HT.out]; rfl, below_drewN (two_allocs w _ _) _⟩
      · have HT : Hid (R = false) := by show _ = _; rw [HR.out, q1, decide_eq_false h2]; rfl
        have q2 : (qb / 256 == pb / 256) = false := by simpa using h2
        clear HR h1 h2
        go_enter Tryz.func33, Tryz.ntmps33
        go_wp2_with fail
        go_quiet (fail)
        go_wp2_with fail
        go_ret
        exact ⟨by rw [HT.out]; rfl, below_drewN (two_allocs w _ _) _⟩
    · have q1 : decide ((8 : Int) ≤ ql) = false := by simpa using h1
      have HT : Hid (R = false) := by show _ = _; rw [HR.out, q1]; rfl
      clear HR h1
      go_enter Tryz.func33, Tryz.ntmps33
      go_wp2_with fail
      go_quiet (fail)
      go_wp2_with fail
      go_ret
      exact ⟨by rw [HT.out]; rfl, below_drewN (two_allocs w _ _) _⟩
  · have HR : Hid (R = (decide ((9 : Int) ≤ ql) && decide (qb / 128 = pb / 128))) := HR0
    clear HR0
    by_cases h1 : (9 : Int) ≤ ql
    · have q1 : decide ((9 : Int) ≤ ql) = true := by simpa using h1
      by_cases h2 : qb / 128 = pb / 128
      · have HT : Hid (R = true) := by show _ = _; rw [HR.out, q1, decide_eq_true h2]; rfl
        have q2 : (qb / 128 == pb / 128) = true := by simpa using h2
        clear HR h1 h2
        go_enter Tryz.func33, Tryz.ntmps33
        go_wp2_with fail
        go_quiet (fail)
        go_wp2_with fail
        go_ret
        exact ⟨by rw [HT.out]; rfl, below_drewN (two_allocs w _ _) _⟩
      · have HT : Hid (R = false) := by show _ = _; rw [HR.out, q1, decide_eq_false h2]; rfl
        have q2 : (qb / 128 == pb / 128) = false := by simpa using h2
        clear HR h1 h2
        go_enter Tryz.func33, Tryz.ntmps33
        go_wp2_with fail
        go_quiet (fail)
        go_wp2_with fail
        go_ret
        exact ⟨by rw [HT.out]; rfl, below_drewN (two_allocs w _ _) _⟩
    · have q1 : decide ((9 : Int) ≤ ql) = false := by simpa using h1
      have HT : Hid (R = false) := by show _ = _; rw [HR.out, q1]; rfl
      clear HR h1
      go_enter Tryz.func33, Tryz.ntmps33
      go_wp2_with fail
      go_quiet (fail)
      go_wp2_with fail
      go_ret
      exact ⟨by rw [HT.out]; rfl, below_drewN (two_allocs w _ _) _⟩
  · have HR : Hid (R = (decide ((10 : Int) ≤ ql) && decide (qb / 64 = pb / 64))) := HR0
    clear HR0
    by_cases h1 : (10 : Int) ≤ ql
    · have q1 : decide ((10 : Int) ≤ ql) = true := by simpa using h1
      by_cases h2 : qb / 64 = pb / 64
      · have HT : Hid (R = true) := by show _ = _; rw [HR.out, q1, decide_eq_true h2]; rfl
        have q2 : (qb / 64 == pb / 64) = true := by simpa using h2
        clear HR h1 h2
        go_enter Tryz.func33, Tryz.ntmps33
        go_wp2_with fail
        go_quiet (fail)
        go_wp2_with fail
        go_ret
        exact ⟨by rw [HT.out]; rfl, below_drewN (two_allocs w _ _) _⟩
      · have HT : Hid (R = false) := by show _ = _; rw [HR.out, q1, decide_eq_false h2]; rfl
        have q2 : (qb / 64 == pb / 64) = false := by simpa using h2
        clear HR h1 h2
        go_enter Tryz.func33, Tryz.ntmps33
        go_wp2_with fail
        go_quiet (fail)
        go_wp2_with fail
        go_ret
        exact ⟨by rw [HT.out]; rfl, below_drewN (two_allocs w _ _) _⟩
    · have q1 : decide ((10 : Int) ≤ ql) = false := by simpa using h1
      have HT : Hid (R = false) := by show _ = _; rw [HR.out, q1]; rfl
      clear HR h1
      go_enter Tryz.func33, Tryz.ntmps33
      go_wp2_with fail
      go_quiet (fail)
      go_wp2_with fail
      go_ret
      exact ⟨by rw [HT.out]; rfl, below_drewN (two_allocs w _ _) _⟩
  · have HR : Hid (R = (decide ((11 : Int) ≤ ql) && decide (qb / 32 = pb / 32))) := HR0
    clear HR0
    by_cases h1 : (11 : Int) ≤ ql
    · have q1 : decide ((11 : Int) ≤ ql) = true := by simpa using h1
      by_cases h2 : qb / 32 = pb / 32
      · have HT : Hid (R = true) := by show _ = _; rw [HR.out, q1, decide_eq_true h2]; rfl
        have q2 : (qb / 32 == pb / 32) = true := by simpa using h2
        clear HR h1 h2
        go_enter Tryz.func33, Tryz.ntmps33
        go_wp2_with fail
        go_quiet (fail)
        go_wp2_with fail
        go_ret
        exact ⟨by rw [HT.out]; rfl, below_drewN (two_allocs w _ _) _⟩
      · have HT : Hid (R = false) := by show _ = _; rw [HR.out, q1, decide_eq_false h2]; rfl
        have q2 : (qb / 32 == pb / 32) = false := by simpa using h2
        clear HR h1 h2
        go_enter Tryz.func33, Tryz.ntmps33
        go_wp2_with fail
        go_quiet (fail)
        go_wp2_with fail
        go_ret
        exact ⟨by rw [HT.out]; rfl, below_drewN (two_allocs w _ _) _⟩
    · have q1 : decide ((11 : Int) ≤ ql) = false := by simpa using h1
      have HT : Hid (R = false) := by show _ = _; rw [HR.out, q1]; rfl
      clear HR h1
      go_enter Tryz.func33, Tryz.ntmps33
      go_wp2_with fail
      go_quiet (fail)
      go_wp2_with fail
      go_ret
      exact ⟨by rw [HT.out]; rfl, below_drewN (two_allocs w _ _) _⟩
  · have HR : Hid (R = (decide ((12 : Int) ≤ ql) && decide (qb / 16 = pb / 16))) := HR0
    clear HR0
    by_cases h1 : (12 : Int) ≤ ql
    · have q1 : decide ((12 : Int) ≤ ql) = true := by simpa using h1
      by_cases h2 : qb / 16 = pb / 16
      · have HT : Hid (R = true) := by show _ = _; rw [HR.out, q1, decide_eq_true h2]; rfl
        have q2 : (qb / 16 == pb / 16) = true := by simpa using h2
        clear HR h1 h2
        go_enter Tryz.func33, Tryz.ntmps33
        go_wp2_with fail
        go_quiet (fail)
        go_wp2_with fail
        go_ret
        exact ⟨by rw [HT.out]; rfl, below_drewN (two_allocs w _ _) _⟩
      · have HT : Hid (R = false) := by show _ = _; rw [HR.out, q1, decide_eq_false h2]; rfl
        have q2 : (qb / 16 == pb / 16) = false := by simpa using h2
        clear HR h1 h2
        go_enter Tryz.func33, Tryz.ntmps33
        go_wp2_with fail
        go_quiet (fail)
        go_wp2_with fail
        go_ret
        exact ⟨by rw [HT.out]; rfl, below_drewN (two_allocs w _ _) _⟩
    · have q1 : decide ((12 : Int) ≤ ql) = false := by simpa using h1
      have HT : Hid (R = false) := by show _ = _; rw [HR.out, q1]; rfl
      clear HR h1
      go_enter Tryz.func33, Tryz.ntmps33
      go_wp2_with fail
      go_quiet (fail)
      go_wp2_with fail
      go_ret
      exact ⟨by rw [HT.out]; rfl, below_drewN (two_allocs w _ _) _⟩
  · have HR : Hid (R = (decide ((13 : Int) ≤ ql) && decide (qb / 8 = pb / 8))) := HR0
    clear HR0
    by_cases h1 : (13 : Int) ≤ ql
    · have q1 : decide ((13 : Int) ≤ ql) = true := by simpa using h1
      by_cases h2 : qb / 8 = pb / 8
      · have HT : Hid (R = true) := by show _ = _; rw [HR.out, q1, decide_eq_true h2]; rfl
        have q2 : (qb / 8 == pb / 8) = true := by simpa using h2
        clear HR h1 h2
        go_enter Tryz.func33, Tryz.ntmps33
        go_wp2_with fail
        go_quiet (fail)
        go_wp2_with fail
        go_ret
        exact ⟨by rw [HT.out]; rfl, below_drewN (two_allocs w _ _) _⟩
      · have HT : Hid (R = false) := by show _ = _; rw [HR.out, q1, decide_eq_false h2]; rfl
        have q2 : (qb / 8 == pb / 8) = false := by simpa using h2
        clear HR h1 h2
        go_enter Tryz.func33, Tryz.ntmps33
        go_wp2_with fail
        go_quiet (fail)
        go_wp2_with fail
        go_ret
        exact ⟨by rw [HT.out]; rfl, below_drewN (two_allocs w _ _) _⟩
    · have q1 : decide ((13 : Int) ≤ ql) = false := by simpa using h1
      have HT : Hid (R = false) := by show _ = _; rw [HR.out, q1]; rfl
      clear HR h1
      go_enter Tryz.func33, Tryz.ntmps33
      go_wp2_with fail
      go_quiet (fail)
      go_wp2_with fail
      go_ret
      exact ⟨by rw [HT.out]; rfl, below_drewN (two_allocs w _ _) _⟩
  · have HR : Hid (R = (decide ((14 : Int) ≤ ql) && decide (qb / 4 = pb / 4))) := HR0
    clear HR0
    by_cases h1 : (14 : Int) ≤ ql
    · have q1 : decide ((14 : Int) ≤ ql) = true := by simpa using h1
      by_cases h2 : qb / 4 = pb / 4
      · have HT : Hid (R = true) := by show _ = _; rw [HR.out, q1, decide_eq_true h2]; rfl
        have q2 : (qb / 4 == pb / 4) = true := by simpa using h2
        clear HR h1 h2
        go_enter Tryz.func33, Tryz.ntmps33
        go_wp2_with fail
        go_quiet (fail)
        go_wp2_with fail
        go_ret
        exact ⟨by rw [HT.out]; rfl, below_drewN (two_allocs w _ _) _⟩
      · have HT : Hid (R = false) := by show _ = _; rw [HR.out, q1, decide_eq_false h2]; rfl
        have q2 : (qb / 4 == pb / 4) = false := by simpa using h2
        clear HR h1 h2
        go_enter Tryz.func33, Tryz.ntmps33
        go_wp2_with fail
        go_quiet (fail)
        go_wp2_with fail
        go_ret
        exact ⟨by rw [HT.out]; rfl, below_drewN (two_allocs w _ _) _⟩
    · have q1 : decide ((14 : Int) ≤ ql) = false := by simpa using h1
      have HT : Hid (R = false) := by show _ = _; rw [HR.out, q1]; rfl
      clear HR h1
      go_enter Tryz.func33, Tryz.ntmps33
      go_wp2_with fail
      go_quiet (fail)
      go_wp2_with fail
      go_ret
      exact ⟨by rw [HT.out]; rfl, below_drewN (two_allocs w _ _) _⟩
  · have HR : Hid (R = (decide ((15 : Int) ≤ ql) && decide (qb / 2 = pb / 2))) := HR0
    clear HR0
    by_cases h1 : (15 : Int) ≤ ql
    · have q1 : decide ((15 : Int) ≤ ql) = true := by simpa using h1
      by_cases h2 : qb / 2 = pb / 2
      · have HT : Hid (R = true) := by show _ = _; rw [HR.out, q1, decide_eq_true h2]; rfl
        have q2 : (qb / 2 == pb / 2) = true := by simpa using h2
        clear HR h1 h2
        go_enter Tryz.func33, Tryz.ntmps33
        go_wp2_with fail
        go_quiet (fail)
        go_wp2_with fail
        go_ret
        exact ⟨by rw [HT.out]; rfl, below_drewN (two_allocs w _ _) _⟩
      · have HT : Hid (R = false) := by show _ = _; rw [HR.out, q1, decide_eq_false h2]; rfl
        have q2 : (qb / 2 == pb / 2) = false := by simpa using h2
        clear HR h1 h2
        go_enter Tryz.func33, Tryz.ntmps33
        go_wp2_with fail
        go_quiet (fail)
        go_wp2_with fail
        go_ret
        exact ⟨by rw [HT.out]; rfl, below_drewN (two_allocs w _ _) _⟩
    · have q1 : decide ((15 : Int) ≤ ql) = false := by simpa using h1
      have HT : Hid (R = false) := by show _ = _; rw [HR.out, q1]; rfl
      clear HR h1
      go_enter Tryz.func33, Tryz.ntmps33
      go_wp2_with fail
      go_quiet (fail)
      go_wp2_with fail
      go_ret
      exact ⟨by rw [HT.out]; rfl, below_drewN (two_allocs w _ _) _⟩
  · have HR : Hid (R = (decide ((16 : Int) ≤ ql) && decide (qb / 1 = pb / 1))) := HR0
    clear HR0
    by_cases h1 : (16 : Int) ≤ ql
    · have q1 : decide ((16 : Int) ≤ ql) = true := by simpa using h1
      by_cases h2 : qb / 1 = pb / 1
      · have HT : Hid (R = true) := by show _ = _; rw [HR.out, q1, decide_eq_true h2]; rfl
        have q2 : (qb == pb) = true := by simpa using h2
        clear HR h1 h2
        go_enter Tryz.func33, Tryz.ntmps33
        go_wp2_with fail
        go_quiet (fail)
        go_wp2_with fail
        go_ret
        exact ⟨by rw [HT.out]; rfl, below_drewN (two_allocs w _ _) _⟩
      · have HT : Hid (R = false) := by show _ = _; rw [HR.out, q1, decide_eq_false h2]; rfl
        have q2 : (qb == pb) = false := by simpa using h2
        clear HR h1 h2
        go_enter Tryz.func33, Tryz.ntmps33
        go_wp2_with fail
        go_quiet (fail)
        go_wp2_with fail
        go_ret
        exact ⟨by rw [HT.out]; rfl, below_drewN (two_allocs w _ _) _⟩
    · have q1 : decide ((16 : Int) ≤ ql) = false := by simpa using h1
      have HT : Hid (R = false) := by show _ = _; rw [HR.out, q1]; rfl
      clear HR h1
      go_enter Tryz.func33, Tryz.ntmps33
      go_wp2_with fail
      go_quiet (fail)
      go_wp2_with fail
      go_ret
      exact ⟨by rw [HT.out]; rfl, below_drewN (two_allocs w _ _) _⟩
/-- sluicekeep.within is the covering of prefixes. -/
theorem within_cov (pb pl qb ql : Int) (w : World) (hp : prefOK pb pl = true) (hq : prefOK qb ql = true) :
    Calls Tryz.prog 33 #[.agg #[.int .i64 pb, .int .i64 pl], .agg #[.int .i64 qb, .int .i64 ql]] w fun e w' => e = .returned (.bool (cov pb pl qb ql)) ∧ Below w.heap.size w w' := by
  obtain ⟨p0, p1, p2, p3, _⟩ := prefOK_bd hp
  obtain ⟨q0, q1, q2, q3, _⟩ := prefOK_bd hq
  obtain ⟨k, rfl⟩ : ∃ k : Nat, pl = (k : Int) := ⟨pl.toNat, by omega⟩
  have e : (16 - (k : Int)).toNat = 16 - k := by omega
  have h := within_any pb qb ql k w (by omega) p2 p3 q2 q3 q0
  unfold cov lies
  rw [e]
  simpa using h
end Go.Proofs.YtgkiknfpcbcnnabGreat

namespace Go.Proofs.YtgkiknfpcbcnnabGreat
open Go.RowKit
set_option maxRecDepth 20000
theorem p0_len {tx : ByteArray} (hd : (decS tx).isSome = true) (hty : (p0S tx).ty = 1) : 0 ≤ (p0S tx).ln ∧ (p0S tx).ln ≤ 16 := by
  have hl := dS_ne hd
  have h := dS_isP tx 0 (by omega)
  rw [← p0S_get hl] at h
  unfold isP at h
  rw [if_pos (by rw [hty]; rfl)] at h
  simp only [prefOK, Bool.and_eq_true, decide_eq_true_eq] at h
  omega

set_option maxHeartbeats 1600000 in
theorem kdest_any (tx : ByteArray) (w : World) (hd : (decS tx).isSome = true) (hs : tx.size ≤ 140737488351232) :
    Calls Tryz.prog 31 #[.string tx] w fun e w' => e = .returned (.tuple #[.agg #[.int .i64 (dsB tx), .int .i64 (dsL tx)], .bool (decide ((p0S tx).ty = 1))]) ∧ Below w.heap.size w w' := by
  have hl := dS_ne hd
  have hpl : (p0S tx).ty = 1 → 0 ≤ (p0S tx).ln ∧ (p0S tx).ln ≤ 16 := p0_len hd
  obtain ⟨B, hB⟩ : ∃ B, B = dsB tx := ⟨_, rfl⟩
  obtain ⟨L, hL⟩ : ∃ L, L = dsL tx := ⟨_, rfl⟩
  obtain ⟨D, hD⟩ : ∃ D, D = decide ((p0S tx).ty = 1) := ⟨_, rfl⟩
  have HB : Hid (B = dsB tx) := hB
  have HL : Hid (L = dsL tx) := hL
  have HD : Hid (D = decide ((p0S tx).ty = 1)) := hD
  rw [← hB, ← hL, ← hD]
  clear hB hL hD
  have HE : Hid (eS tx = 0) := eS_some hd
  have g0 : (((dS tx).length : Int) == 0) = false := beq_eq_false_iff_ne.2 (by omega)
  have g1 : (0 : Int) < ((dS tx).length : Int) := by omega
  go_enter Tryz.func31, Tryz.ntmps31
  go_wp2_with fail
  refine (flow2 tx _ hs).mono ?_
  rintro e w1 ⟨hb1, ao, cap, qs, rfl, hq, hrule⟩
  rw [HE.out]
  have hpi : PartsIn w1 ao (dS tx) := hrule.reads2 hq rfl (dS_small tx).2
  have hP := P0.of hpi hl
  clear hq hrule hpi
  obtain ⟨wA, hwA⟩ : ∃ wA, wA = w1.alloc (.cells #[.slice ao (dS tx).length cap] 78) := ⟨_, rfl⟩
  have hbA : Below w1.heap.size w1 wA := by rw [hwA]; exact below_alloc _ _
  obtain ⟨pb, off, rfl, hlt, c0, c1, c2⟩ := (hP.below hbA).ex
  rw [hwA] at c0 c1 c2 hlt
  clear hP
  obtain ⟨a0, a1, az⟩ := cells_pr hb1
  have hPv : PfVar w1 w.heap.size 0 0 := (hb1.block _ (by simp)).trans (heap_alloc_new w _)
  have HPV : Hid (PfVar w1 w.heap.size 0 0) := hPv
  obtain ⟨s0, s1, s2, s3⟩ := hPv.get
  have hPA := hPv.below hbA
  rw [hwA] at hPA
  obtain ⟨r0, r1, f0, f1⟩ := hPA.get
  have hbw := below_first hb1
  have hzw := hbw.size
  clear hwA hbA hPv hPA
  by_cases hty : (p0S tx).ty = 1
  · have HB2 : Hid (B = (p0S tx).bt) := by show _ = _; rw [HB.out]; unfold dsB; rw [if_pos hty]
    have HL2 : Hid (L = (p0S tx).ln) := by show _ = _; rw [HL.out]; unfold dsL; rw [if_pos hty]
    have HD2 : Hid (D = true) := by show _ = _; rw [HD.out]; simpa using hty
    obtain ⟨hl0, hl16⟩ := hpl hty
    rw [hty] at c0
    clear HB HL HD hty hpl
    generalize (p0S tx).bt = bt at *
    generalize (p0S tx).ln = ln at *
    generalize (dS tx).length = n at *
    have g3 : decide (16 < ln) = false := by simp only [decide_eq_false_iff_not]; omega
    have g4 : decide (ln < 0) = false := by simp only [decide_eq_false_iff_not]; omega
    go_wp2_with fail
    have e0 : (((w1.setCell ⟨w.heap.size, 0, none⟩ (.int .i64 bt)).setCell ⟨w.heap.size, 1, none⟩ (.int .i64 ln)).alloc (.cells #[.slice (some ⟨pb, off, none⟩) n cap] 78)).cell? ⟨w.heap.size, 0, none⟩ = some (.int .i64 bt) := ((HPV.out.set bt ln).below (below_alloc _ _)).get.1
    have e1 : (((w1.setCell ⟨w.heap.size, 0, none⟩ (.int .i64 bt)).setCell ⟨w.heap.size, 1, none⟩ (.int .i64 ln)).alloc (.cells #[.slice (some ⟨pb, off, none⟩) n cap] 78)).cell? ⟨w.heap.size, 1, none⟩ = some (.int .i64 ln) := ((HPV.out.set bt ln).below (below_alloc _ _)).get.2.1
    exact bodyPost_ret (v := .tuple #[.agg #[.int .i64 bt, .int .i64 ln], .bool true]) (by simp [results, Tryz.results31, go_sem, e0, e1]) rfl ⟨by rw [HB2.out, HL2.out, HD2.out], (below_setCells [.int .i64 bt, .int .i64 ln] 0 hbw (Nat.le_refl _)).alloc (below_setCells [.int .i64 bt, .int .i64 ln] 0 hbw (Nat.le_refl _)).size _⟩
  · have HB2 : Hid (B = 0) := by show _ = _; rw [HB.out]; unfold dsB; rw [if_neg hty]
    have HL2 : Hid (L = 0) := by show _ = _; rw [HL.out]; unfold dsL; rw [if_neg hty]
    have HD2 : Hid (D = false) := by show _ = _; rw [HD.out]; simpa using hty
    have g2 : ((p0S tx).ty != 1) = true := by simpa using hty
    clear HB HL HD hty hpl
    generalize (p0S tx).ty = ty at *
    generalize (p0S tx).bt = bt at *
    generalize (p0S tx).ln = ln at *
    generalize (dS tx).length = n at *
    go_wp2_with fail
    have e0 : (((w1.setCell ⟨w.heap.size, 0, none⟩ (.int .i64 0)).setCell ⟨w.heap.size, 1, none⟩ (.int .i64 0)).alloc (.cells #[.slice (some ⟨pb, off, none⟩) n cap] 78)).cell? ⟨w.heap.size, 0, none⟩ = some (.int .i64 0) := ((HPV.out.set 0 0).below (below_alloc _ _)).get.1
    have e1 : (((w1.setCell ⟨w.heap.size, 0, none⟩ (.int .i64 0)).setCell ⟨w.heap.size, 1, none⟩ (.int .i64 0)).alloc (.cells #[.slice (some ⟨pb, off, none⟩) n cap] 78)).cell? ⟨w.heap.size, 1, none⟩ = some (.int .i64 0) := ((HPV.out.set 0 0).below (below_alloc _ _)).get.2.1
    exact bodyPost_ret (v := .tuple #[.agg #[.int .i64 0, .int .i64 0], .bool false]) (by simp [results, Tryz.results31, go_sem, e0, e1]) rfl ⟨by rw [HB2.out, HL2.out, HD2.out], (below_setCells [.int .i64 0, .int .i64 0] 0 hbw (Nat.le_refl _)).alloc (below_setCells [.int .i64 0, .int .i64 0] 0 hbw (Nat.le_refl _)).size _⟩
end Go.Proofs.YtgkiknfpcbcnnabGreat

namespace Go.Proofs.YtgkiknfpcbcnnabGreat
open Go.RowKit
set_option maxRecDepth 20000

theorem nwF_mem (bt ln : Int) : ∀ (l : List Rt) (b : Rt), nwF bt ln b l = b ∨ ∃ r ∈ l, r.bt = bt ∧ r.ln = ln ∧ nwF bt ln b l = r := by
  intro l
  induction l with
  | nil => intro b; exact .inl rfl
  | cons r l ih =>
    intro b
    have e : nwF bt ln b (r :: l) = nwF bt ln (nwStep bt ln b r) l := rfl
    rw [e]
    rcases ih (nwStep bt ln b r) with h | ⟨q, hq, h1, h2, h3⟩
    · rw [h]
      unfold nwStep
      split
      · rename_i hh
        simp only [Bool.and_eq_true, decide_eq_true_eq] at hh
        exact .inr ⟨r, by simp, hh.1.1, hh.1.2, rfl⟩
      · exact .inl rfl
    · exact .inr ⟨q, by simp [hq], h1, h2, h3⟩
/-- The best route is one of them. -/
theorem best_route {l : List Rt} (h : RtOK l) {bt ln : Int} (hb : best l bt ln ≠ 4) : ∃ r ∈ l, r.bt = bt ∧ r.ln = ln ∧ r.pe = best l bt ln := by
  have e := nwF_best h bt ln 0 0
  rcases nwF_mem bt ln l ⟨4, 0, 0, 255⟩ with hh | ⟨r, hr, h1, h2, h3⟩
  · rw [hh] at e
    exact absurd e.symm hb
  · rw [h3] at e
    exact ⟨r, hr, h1, h2, e⟩
/-- Of some routes: the greatest length of those that are so, or -1. -/
structure MaxI (f : Rt → Bool) (l : List Rt) (m : Int) : Prop where
  ex : m = -1 ∨ ∃ r ∈ l, f r = true ∧ r.ln = m
  all : ∀ r ∈ l, f r = true → r.ln ≤ m
theorem MaxI.nil (f : Rt → Bool) : MaxI f [] (-1) := ⟨.inl rfl, fun r h => by simp at h⟩
theorem MaxI.snoc {f : Rt → Bool} {l : List Rt} {m : Int} (h : MaxI f l m) (r : Rt) : MaxI f (l ++ [r]) (if f r = true ∧ m < r.ln then r.ln else m) := by
  split
  · rename_i hh
    refine ⟨.inr ⟨r, by simp, hh.1, rfl⟩, fun q hq hf => ?_⟩
    rcases List.mem_append.1 hq with hq | hq
    · have := h.all q hq hf; omega
    · rw [List.mem_singleton.1 hq]; omega
  · rename_i hh
    refine ⟨?_, fun q hq hf => ?_⟩
    · rcases h.ex with e | ⟨q, hq, h1, h2⟩
      · exact .inl e
      · exact .inr ⟨q, by simp [hq], h1, h2⟩
    · rcases List.mem_append.1 hq with hq | hq
      · exact h.all q hq hf
      · have hq' := List.mem_singleton.1 hq
        subst hq'
        have hn : ¬ m < q.ln := fun hlt => hh ⟨hf, hlt⟩
        omega
section
variable {c : Cf} {rts : List Rt} {p : Pt} {pe lo ow : Int}
theorem MaxI.lc (h : RtOK rts) (hlo : MaxI (fun r => cov r.bt r.ln p.bt p.ln) rts lo) (hfd : (lcF p.bt p.ln ⟨false, 0, 0⟩ rts).fd = true) : (∃ r ∈ rts, cov r.bt r.ln p.bt p.ln = true ∧ (lcF p.bt p.ln ⟨false, 0, 0⟩ rts).bt = r.bt ∧ (lcF p.bt p.ln ⟨false, 0, 0⟩ rts).ln = r.ln) ∧ lo = (lcF p.bt p.ln ⟨false, 0, 0⟩ rts).ln := by
  obtain ⟨h1, _, h3⟩ := (lcF_spec p.bt p.ln rts ⟨false, 0, 0⟩).2 hfd
  have hr : ∃ r ∈ rts, cov r.bt r.ln p.bt p.ln = true ∧ (lcF p.bt p.ln ⟨false, 0, 0⟩ rts).bt = r.bt ∧ (lcF p.bt p.ln ⟨false, 0, 0⟩ rts).ln = r.ln := by
    rcases h1 with e | e
    · rw [e] at hfd; cases hfd
    · exact e
  refine ⟨hr, ?_⟩
  obtain ⟨r, hm, hc, _, hl⟩ := hr
  have g1 := hlo.all r hm hc
  have hr0 := (prefOK_bd (h r hm).2.1).1
  rcases hlo.ex with e | ⟨q, hq, hqc, hql⟩
  · omega
  · have := h3 q hq hqc
    omega
/-- A rule that holds has a route of its network that covers it, as long as any. -/
theorem own_of_holds (h : RtOK rts) (hty : p.ty = 1) (hp : prefOK p.bt p.ln = true) (hpe : peOK pe = true) (hlo : MaxI (fun r => cov r.bt r.ln p.bt p.ln) rts lo) (how : MaxI (fun r => cov r.bt r.ln p.bt p.ln && decide (netF c r.pe = netF c pe)) rts ow) (hh : holdsP c rts p pe = true) : 0 ≤ ow ∧ ow = lo := by
  rw [← holdL_eq h hty hp hpe] at hh
  unfold holdL at hh
  simp only [Bool.and_eq_true, decide_eq_true_eq] at hh
  obtain ⟨hfd, hnet, _⟩ := hh
  obtain ⟨⟨r, hm, hc, hb, hl⟩, hlc⟩ := hlo.lc h hfd
  have hne : best rts (lcF p.bt p.ln ⟨false, 0, 0⟩ rts).bt (lcF p.bt p.ln ⟨false, 0, 0⟩ rts).ln ≠ 4 := fun e => (best_four h _ _).1 e r hm ⟨hb.symm, hl.symm⟩
  obtain ⟨q, hq, hqb, hql, hqp⟩ := best_route h hne
  have hqok := (h q hq).1
  rw [← hqp] at hnet
  unfold netO at hnet
  rw [if_pos hqok, if_pos hpe] at hnet
  have hqc : cov q.bt q.ln p.bt p.ln = true := by rw [hqb, hql, hb, hl]; exact hc
  have g1 := how.all q hq (by simp only [hqc, Bool.true_and, decide_eq_true_eq]; exact hnet)
  have hr0 := (prefOK_bd (h q hq).2.1).1
  rcases how.ex with e | ⟨t, ht, htf, htl⟩
  · omega
  · simp only [Bool.and_eq_true] at htf
    have := hlo.all t ht htf.1
    omega
/-- Where no route is of another network, that is enough. -/
theorem holds_of_own (h : RtOK rts) (hty : p.ty = 1) (hp : prefOK p.bt p.ln = true) (hpe : peOK pe = true) (how : MaxI (fun r => cov r.bt r.ln p.bt p.ln && decide (netF c r.pe = netF c pe)) rts ow) (h0 : 0 ≤ ow) (hall : ∀ r ∈ rts, netF c r.pe = netF c pe) : holdsP c rts p pe = true := by
  rw [← holdL_eq h hty hp hpe]
  unfold holdL
  have hbest : ∀ bt ln, best rts bt ln ≠ 4 → netO c (best rts bt ln) = netO c pe := by
    intro bt ln hne
    obtain ⟨q, hq, _, _, hqp⟩ := best_route h hne
    rw [← hqp]
    unfold netO
    rw [if_pos (h q hq).1, if_pos hpe]
    exact hall q hq
  obtain ⟨t, ht, htf, htl⟩ : ∃ r ∈ rts, (cov r.bt r.ln p.bt p.ln && decide (netF c r.pe = netF c pe)) = true ∧ r.ln = ow := by
    rcases how.ex with e | e
    · omega
    · exact e
  simp only [Bool.and_eq_true] at htf
  have hfd : (lcF p.bt p.ln ⟨false, 0, 0⟩ rts).fd = true := by
    cases hh : (lcF p.bt p.ln ⟨false, 0, 0⟩ rts).fd
    · have := ((lcF_spec p.bt p.ln rts ⟨false, 0, 0⟩).1 hh).2 t ht
      rw [this] at htf
      cases htf.1
    · rfl
  obtain ⟨h1, _, _⟩ := (lcF_spec p.bt p.ln rts ⟨false, 0, 0⟩).2 hfd
  obtain ⟨r, hm, hc, hb, hl⟩ : ∃ r ∈ rts, cov r.bt r.ln p.bt p.ln = true ∧ (lcF p.bt p.ln ⟨false, 0, 0⟩ rts).bt = r.bt ∧ (lcF p.bt p.ln ⟨false, 0, 0⟩ rts).ln = r.ln := by
    rcases h1 with e | e
    · rw [e] at hfd; cases hfd
    · exact e
  simp only [Bool.and_eq_true, decide_eq_true_eq]
  refine ⟨hfd, hbest _ _ (fun e => (best_four h _ _).1 e r hm ⟨hb.symm, hl.symm⟩), ?_⟩
  rw [List.all_eq_true]
  intro q hq
  have := hbest q.bt q.ln (fun e => (best_four h _ _).1 e q hq ⟨rfl, rfl⟩)
  rw [decide_eq_true this]
  simp
end
end Go.Proofs.YtgkiknfpcbcnnabGreat
