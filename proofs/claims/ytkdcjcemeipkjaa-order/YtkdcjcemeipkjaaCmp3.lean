import Derived.Test.YtkdcjcemeipkjaaCmp2
namespace Go.Proofs.Ytkdcjcemeipkjaa
open Go.RowKit
set_option maxRecDepth 20000

theorem lowerFirst_any (a b : Int) (w : World) :
    Calls Try.prog 73 #[.int .i64 a, .int .i64 b] w fun e w' => e = .returned (.int .i64 (lowF a b)) ∧ w = w' := by
  unfold lowF
  by_cases h1 : a < b
  · rw [if_pos h1]
    go_enter Try.func73, Try.ntmps73; go_wp2; go_ret; exact ⟨rfl, rfl⟩
  · rw [if_neg h1]
    by_cases h2 : b < a
    · rw [if_pos h2]
      go_enter Try.func73, Try.ntmps73; go_wp2; go_ret; exact ⟨rfl, rfl⟩
    · rw [if_neg h2]
      go_enter Try.func73, Try.ntmps73; go_wp2; go_ret; exact ⟨rfl, rfl⟩

theorem lowerFirst_q (a b : Int) (w : World) (q : Nat) : Calls Try.prog 73 #[.int .i64 a, .int .i64 b] (w.drewN q) fun e w' => e = .returned (.int .i64 (lowF a b)) ∧ ∃ k, w' = w.drewN k :=
  Calls.quiet_of_same ((lowerFirst_any a b _).mono fun _ _ h' => ⟨h'.1, h'.2.symm⟩)

set_option maxHeartbeats 400000 in
theorem covers_any (b1 l1 b2 l2 : Int) (w : World) (h1 : prefOK b1 l1 = true) (h2 : prefOK b2 l2 = true) :
    Calls Try.prog 80 #[.agg #[.int .i64 b1, .int .i64 l1], .agg #[.int .i64 b2, .int .i64 l2]] w fun e w' => e = .returned (.bool (cov b1 l1 b2 l2)) ∧ Below w.heap.size w w' := by
  obtain ⟨_, _, v0, v1, _⟩ := prefOK_bd h2
  unfold cov
  by_cases hl : l1 ≤ l2
  · rw [decide_eq_true hl, Bool.true_and]
    go_enter Try.func80, Try.ntmps80
    go_wp2_with (go_at_call 57; refine (liesIn_any _ _ _ _ h1 v0 v1).mono ?_; rintro e w1 ⟨rfl, hb1⟩)
    go_ret
    exact ⟨rfl, ((below_alloc _ _).alloc (by simp) _).trans (hb1.mono (by simp; omega))⟩
  · have hd : decide (l1 ≤ l2) = false := by simpa using hl
    rw [hd, Bool.false_and]
    clear hl
    go_enter Try.func80, Try.ntmps80
    go_wp2
    go_ret
    exact ⟨rfl, (below_alloc _ _).alloc (by simp) _⟩

theorem cells_two {w w1 : World} {a b : Value} {t : TypeId} (hb : Below (w.alloc (.cells #[a, b] t)).heap.size (w.alloc (.cells #[a, b] t)) w1) :
    w1.cell? ⟨w.heap.size, 0, none⟩ = some a ∧ w1.cell? ⟨w.heap.size, 1, none⟩ = some b ∧ w.heap.size < w1.heap.size := by
  have hz := hb.size
  simp only [World.size_alloc] at hz
  exact ⟨(hb.cell (by simp)).trans (by simp [go_sem]), (hb.cell (by simp)).trans (by simp [go_sem]), by omega⟩

set_option maxHeartbeats 800000 in
theorem comparePrefixes_any (b1 l1 b2 l2 : Int) (w : World) (h1 : prefOK b1 l1 = true) (h2 : prefOK b2 l2 = true) :
    Calls Try.prog 74 #[.agg #[.int .i64 b1, .int .i64 l1], .agg #[.int .i64 b2, .int .i64 l2]] w fun e w' => e = .returned (.int .i64 (cmpPref b1 l1 b2 l2)) ∧ Below w.heap.size w w' := by
  unfold cmpPref
  cases c1 : cov b1 l1 b2 l2
  · cases c2 : cov b2 l2 b1 l1
    · simp only [Bool.or_self, Bool.false_eq_true, if_false]
      go_enter Try.func74, Try.ntmps74
      go_wp2_with fail
      refine (covers_any _ _ _ _ _ h1 h2).mono ?_
      rintro e w1 ⟨rfl, hb1⟩
      rw [c1]
      have hA : Below (w.alloc (.cells #[.int .i64 b1, .int .i64 l1] 32)).heap.size (w.alloc (.cells #[.int .i64 b1, .int .i64 l1] 32)) w1 := (below_alloc _ _).trans (hb1.mono (by simp))
      obtain ⟨a0, a1, az⟩ := cells_two hA
      obtain ⟨d0, d1, dz⟩ := cells_two hb1
      simp only [World.size_alloc] at d0 d1 dz
      go_wp2_with fail
      refine (covers_any _ _ _ _ _ h2 h1).mono ?_
      rintro e w2 ⟨rfl, hb2⟩
      rw [c2]
      have k0 := (hb2.cell (p := ⟨w.heap.size, 0, none⟩) az).trans a0
      have k1 := (hb2.cell (p := ⟨w.heap.size, 1, none⟩) az).trans a1
      have g0 := (hb2.cell (p := ⟨w.heap.size + 1, 0, none⟩) dz).trans d0
      have g1 := (hb2.cell (p := ⟨w.heap.size + 1, 1, none⟩) dz).trans d1
      go_wp2_with (go_at_call 73; refine (lowerFirst_any _ _ _).mono ?_; rintro e w' ⟨rfl, rfl⟩)
      go_ret
      exact ⟨rfl, (below_first hA).trans (hb2.mono (by omega))⟩
    · simp only [Bool.false_or, if_true]
      go_enter Try.func74, Try.ntmps74
      go_wp2_with fail
      refine (covers_any _ _ _ _ _ h1 h2).mono ?_
      rintro e w1 ⟨rfl, hb1⟩
      rw [c1]
      have hA : Below (w.alloc (.cells #[.int .i64 b1, .int .i64 l1] 32)).heap.size (w.alloc (.cells #[.int .i64 b1, .int .i64 l1] 32)) w1 := (below_alloc _ _).trans (hb1.mono (by simp))
      obtain ⟨a0, a1, az⟩ := cells_two hA
      obtain ⟨d0, d1, dz⟩ := cells_two hb1
      simp only [World.size_alloc] at d0 d1 dz
      go_wp2_with fail
      refine (covers_any _ _ _ _ _ h2 h1).mono ?_
      rintro e w2 ⟨rfl, hb2⟩
      rw [c2]
      have k0 := (hb2.cell (p := ⟨w.heap.size, 0, none⟩) az).trans a0
      have k1 := (hb2.cell (p := ⟨w.heap.size, 1, none⟩) az).trans a1
      have g0 := (hb2.cell (p := ⟨w.heap.size + 1, 0, none⟩) dz).trans d0
      have g1 := (hb2.cell (p := ⟨w.heap.size + 1, 1, none⟩) dz).trans d1
      go_wp2_with (go_at_call 73; refine (lowerFirst_any _ _ _).mono ?_; rintro e w' ⟨rfl, rfl⟩)
      go_ret
      exact ⟨rfl, (below_first hA).trans (hb2.mono (by omega))⟩
  · simp only [Bool.true_or, if_true]
    go_enter Try.func74, Try.ntmps74
    go_wp2_with fail
    refine (covers_any _ _ _ _ _ h1 h2).mono ?_
    rintro e w1 ⟨rfl, hb1⟩
    rw [c1]
    have hA : Below (w.alloc (.cells #[.int .i64 b1, .int .i64 l1] 32)).heap.size (w.alloc (.cells #[.int .i64 b1, .int .i64 l1] 32)) w1 := (below_alloc _ _).trans (hb1.mono (by simp))
    obtain ⟨a0, a1, az⟩ := cells_two hA
    obtain ⟨d0, d1, dz⟩ := cells_two hb1
    simp only [World.size_alloc] at d0 d1 dz
    go_wp2_with (go_at_call 73; refine (lowerFirst_any _ _ _).mono ?_; rintro e w' ⟨rfl, rfl⟩)
    go_ret
    exact ⟨rfl, below_first hA⟩

theorem bl_get (s : ByteArray) (j : Nat) (h : j < s.size) : (bl s).drop j = s[j] :: (bl s).drop (j + 1) := by
  have hl : j < (bl s).length := by rw [bl_len]; exact h
  rw [List.drop_eq_getElem_cons hl]
  rfl

set_option maxHeartbeats 800000 in
theorem compareBytes_any (s t : ByteArray) (w : World) (hs : s.size ≤ 1000) :
    Calls Try.prog 75 #[.string s, .string t] w fun e w' => e = .returned (.int .i64 (cmpB (bl s) (bl t))) ∧ ∃ n, w' = w.drewN n := by
  go_enter Try.func75, Try.ntmps75
  go_wp2
  go_loopw [5] (fun x wr => ∃ j n : Nat, x = .int .i64 j ∧ j ≤ s.size ∧ j ≤ t.size ∧ wr = w.drewN n ∧ Hid (cmpB (bl s) (bl t) = cmpB ((bl s).drop j) ((bl t).drop j))) (fun x _ => s.size - (intOf x).toNat)
  case atStart => exact ⟨0, 0, rfl, Nat.zero_le _, Nat.zero_le _, rfl, rfl⟩
  case round =>
    obtain ⟨j, n, rfl, hj, hj', rfl, H⟩ := hrel
    by_cases h1 : j < s.size
    · by_cases h2 : j < t.size
      · have i1 : (j : Int) < (s.size : Int) := by omega
        have i2 : (j : Int) < (t.size : Int) := by omega
        by_cases he : s[j] = t[j]
        · have HN : Hid (cmpB (bl s) (bl t) = cmpB ((bl s).drop (j + 1)) ((bl t).drop (j + 1))) := by
            show _ = _
            rw [H.out, bl_get s j h1, bl_get t j h2]
            show (if s[j] = t[j] then _ else _) = _
            rw [if_pos he]
          clear H
          have hb : ((s[j].toNat : Int) == (t[j].toNat : Int)) = true := by rw [he]; simp
          have hb2 : (s[j].toNat == t[j].toNat) = true := by rw [he]; simp
          go_wp2_with fail
          go_quiet (fail)
          go_wp2
          go_roundw
          case rel => exact ⟨j + 1, _, by go_num, by omega, by omega, rfl, HN⟩
          case measure => simp [intOf]; omega
        · have HN : Hid (cmpB (bl s) (bl t) = lowF s[j].toNat t[j].toNat) := by
            show _ = _
            rw [H.out, bl_get s j h1, bl_get t j h2]
            show (if s[j] = t[j] then _ else _) = _
            rw [if_neg he]
          clear H
          have hne : s[j].toNat ≠ t[j].toNat := fun hh => he (UInt8.toNat_inj.1 hh)
          have hb : ((s[j].toNat : Int) == (t[j].toNat : Int)) = false := beq_eq_false_iff_ne.2 (by omega)
          have hb2 : (s[j].toNat == t[j].toNat) = false := beq_eq_false_iff_ne.2 hne
          clear hne
          go_wp2_with fail
          go_quiet (fail)
          go_wp2_with fail
          go_quiet ((go_at_call 73; exact (lowerFirst_any _ _ _).mono fun _ _ h => ⟨h.1, _, h.2.symm⟩))
          go_wp2_with fail
          go_ret
          have u1 := UInt8.toNat_lt s[j]
          have u2 := UInt8.toNat_lt t[j]
          have x1 : wrap64 (s[j].toNat : Int) = s[j].toNat := IntWalk.wrap64_in _ ⟨by omega, by omega⟩
          have x2 : wrap64 (t[j].toNat : Int) = t[j].toNat := IntWalk.wrap64_in _ ⟨by omega, by omega⟩
          refine ⟨?_, _, by rw [World.drewN_drewN, World.drewN_drewN]⟩
          rw [HN.out]
          show Ending.returned (.int .i64 (lowF (wrap64 (s[j].toNat : Int)) (wrap64 (t[j].toNat : Int)))) = _
          rw [x1, x2]
      · have HN : Hid (cmpB (bl s) (bl t) = 0) := by
          show _ = _
          rw [H.out, List.drop_of_length_le (l := bl t) (by rw [bl_len]; omega)]
          cases (bl s).drop j <;> rfl
        clear H
        have d2 : decide ((j : Int) < (t.size : Int)) = false := by simp; omega
        go_wp2
        go_ret
        exact ⟨by rw [HN.out]; rfl, _, rfl⟩
    · have HN : Hid (cmpB (bl s) (bl t) = 0) := by
        show _ = _
        rw [H.out, List.drop_of_length_le (l := bl s) (by rw [bl_len]; omega)]
        rfl
      clear H
      go_wp2
      go_ret
      exact ⟨by rw [HN.out]; rfl, _, rfl⟩
end Go.Proofs.Ytkdcjcemeipkjaa
