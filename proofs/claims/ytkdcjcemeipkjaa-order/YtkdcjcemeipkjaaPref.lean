import Derived.Test.YtkdcjcemeipkjaaLeaf
namespace Go.Proofs.Ytkdcjcemeipkjaa
open Go.RowKit
set_option maxRecDepth 20000

theorem bcell {W w1 : World} (hb : Below W.heap.size W w1) : (∀ b o, b < W.heap.size → w1.cell? ⟨b, o, none⟩ = W.cell? ⟨b, o, none⟩) ∧ (∀ b o, b < W.heap.size → w1.frozen? ⟨b, o, none⟩ = W.frozen? ⟨b, o, none⟩) :=
  ⟨fun b o h => hb.cell (p := ⟨b, o, none⟩) h, fun b o h => hb.frozen (p := ⟨b, o, none⟩) h⟩

theorem pow_bd (k : Nat) (h : k ≤ 16) : 1 ≤ 2 ^ k ∧ 2 ^ k ≤ 65536 :=
  ⟨Nat.one_le_two_pow, by have := Nat.pow_le_pow_right (n := 2) (by omega) h; simpa using this⟩

theorem bits_mask (b : Nat) (k : Nat) (hb : b ≤ 65535) (h : k ≤ 16) : bits BinOp.and IntKind.i64 (b : Int) ((2 ^ k - 1 : Nat) : Int) = ((b % 2 ^ k : Nat) : Int) := by
  have hp := pow_bd k h
  have key : (BitVec.ofInt 64 (b : Int) &&& BitVec.ofInt 64 ((2 ^ k - 1 : Nat) : Int)).toNat = b % 2 ^ k := by
    rw [BitVec.toNat_and, BitVec.toNat_ofInt, BitVec.toNat_ofInt]
    have e1 : ((b : Int) % ((2 ^ 64 : Nat) : Int)).toNat = b := by omega
    have e2 : (((2 ^ k - 1 : Nat) : Int) % ((2 ^ 64 : Nat) : Int)).toNat = 2 ^ k - 1 := by omega
    rw [e1, e2, Nat.and_two_pow_sub_one_eq_mod]
  have hlt : b % 2 ^ k ≤ b := Nat.mod_le _ _
  have e : bits BinOp.and IntKind.i64 (b : Int) ((2 ^ k - 1 : Nat) : Int) = IntKind.i64.wrap ((b % 2 ^ k : Nat) : Int) := by
    show IntKind.i64.wrap ((BitVec.ofInt 64 (b : Int) &&& BitVec.ofInt 64 ((2 ^ k - 1 : Nat) : Int)).toNat : Int) = _
    rw [key]
  rw [e]
  generalize b % 2 ^ k = x at hlt
  simp [IntKind.wrap, IntKind.signed, IntKind.bits]
  omega

theorem mask_eq (b l : Int) (h1 : 0 ≤ l) (h2 : l ≤ 16) (h3 : 0 ≤ b) (h4 : b ≤ 65535) :
    bits BinOp.and IntKind.i64 b (wrap64 (wrap64 (2 ^ (16 - l).toNat) - 1)) = b % 2 ^ (16 - l).toNat := by
  obtain ⟨n, rfl⟩ := Int.eq_ofNat_of_zero_le h3
  generalize hk : (16 - l).toNat = k
  have hk' : k ≤ 16 := by omega
  have hp := pow_bd k hk'
  have e0 : (2 : Int) ^ k = ((2 ^ k : Nat) : Int) := by simp
  have e1 : wrap64 ((2 : Int) ^ k) = ((2 ^ k : Nat) : Int) := by rw [e0]; exact IntWalk.wrap64_in _ ⟨by omega, by omega⟩
  have e2 : wrap64 (wrap64 ((2 : Int) ^ k) - 1) = ((2 ^ k - 1 : Nat) : Int) := by
    rw [e1]
    rw [IntWalk.wrap64_in _ ⟨by omega, by omega⟩]
    omega
  rw [e2, bits_mask n k (by omega) hk', e0]
  simp

/-- Is it a number from nought to m? -/
def isN (n m : Int) : Bool := decide (0 ≤ n) && decide (n ≤ m)

theorem isN_true {n m : Int} (h0 : 0 ≤ n) (h1 : n ≤ m) : isN n m = true := by simp [isN, h0, h1]
theorem isN_false {n m : Int} (h : n < 0 ∨ m < n) : isN n m = false := by
  unfold isN
  rcases h with h | h
  · have : ¬ 0 ≤ n := by omega
    simp [this]
  · have : ¬ n ≤ m := by omega
    simp [this]

theorem isNumber_any (n m : Int) (w : World) :
    Calls Try.prog 55 #[.int .i64 n, .int .i64 m] w fun e w' => e = .returned (.bool (isN n m)) ∧ w = w' := by
  by_cases h0 : 0 ≤ n
  · by_cases h1 : n ≤ m
    · rw [isN_true h0 h1]
      go_enter Try.func55, Try.ntmps55; go_wp2; go_ret; exact ⟨by simp, rfl⟩
    · rw [isN_false (by omega)]
      go_enter Try.func55, Try.ntmps55; go_wp2; go_ret; exact ⟨by simp, rfl⟩
  · rw [isN_false (by omega)]
    go_enter Try.func55, Try.ntmps55; go_wp2; go_ret; exact ⟨rfl, rfl⟩

/-- The bits behind a length. -/
def bBh (l : Int) : Int := if 0 ≤ l ∧ l ≤ 16 then wrap64 (wrap64 (2 ^ (16 - l).toNat) - 1) else 0

theorem bitsBehind_any (l : Int) (w : World) :
    Calls Try.prog 70 #[.int .i64 l] w fun e w' => e = .returned (.int .i64 (bBh l)) ∧ w = w' := by
  unfold bBh
  by_cases h : 0 ≤ l ∧ l ≤ 16
  · rw [if_pos h]
    obtain ⟨h1, h2⟩ := h
    have hn : isN l 16 = true := isN_true h1 h2
    go_enter Try.func70, Try.ntmps70
    go_wp2_with (go_at_call 55; refine (isNumber_any _ _ _).mono ?_; rintro e w' ⟨rfl, rfl⟩; rw [hn])
    go_ret
    exact ⟨rfl, rfl⟩
  · rw [if_neg h]
    have hn : isN l 16 = false := isN_false (by omega)
    go_enter Try.func70, Try.ntmps70
    go_wp2_with (go_at_call 55; refine (isNumber_any _ _ _).mono ?_; rintro e w' ⟨rfl, rfl⟩; rw [hn])
    go_ret
    exact ⟨rfl, rfl⟩

theorem isPrefix_any (b l : Int) (w : World) :
    Calls Try.prog 65 #[.agg #[.int .i64 b, .int .i64 l]] w fun e w' => e = .returned (.bool (prefOK b l)) ∧ Below w.heap.size w w' := by
  by_cases hl : 0 ≤ l ∧ l ≤ 16
  · obtain ⟨h1, h2⟩ := hl
    have hn : isN l 16 = true := isN_true h1 h2
    by_cases hb : 0 ≤ b ∧ b ≤ 65535
    · obtain ⟨h3, h4⟩ := hb
      have hm : isN b 65535 = true := isN_true h3 h4
      have E : Hid (prefOK b l = (bits BinOp.and IntKind.i64 b (bBh l) == 0)) := by
        show prefOK b l = _
        rw [bBh, if_pos ⟨h1, h2⟩, mask_eq b l h1 h2 h3 h4, prefOK]
        simp only [h1, h2, h3, h4, decide_true, Bool.true_and]
        by_cases hz : b % 2 ^ (16 - l).toNat = 0 <;> simp [hz]
      go_enter Try.func65, Try.ntmps65
      go_wp2_with (go_at_call 55; refine (isNumber_any _ _ _).mono ?_; rintro e w' ⟨rfl, rfl⟩; first | rw [hn] | rw [hm])
      go_quiet ((go_at_call 70; exact Calls.quiet_of_same ((bitsBehind_any _ _).mono fun _ _ h => ⟨h.1, h.2.symm⟩)))
      go_wp2_with fail
      go_ret
      exact ⟨by rw [E.out]; rfl, ((Below.refl _ _).alloc (Nat.le_refl _) _).trans ⟨rfl, rfl, rfl, Nat.le_refl _, fun _ _ => rfl⟩⟩
    · have e : prefOK b l = false := by unfold prefOK; simp only [Bool.and_eq_false_iff, decide_eq_false_iff_not]; omega
      rw [e]; clear e
      have hm : isN b 65535 = false := isN_false (by omega)
      go_enter Try.func65, Try.ntmps65
      go_wp2_with (go_at_call 55; refine (isNumber_any _ _ _).mono ?_; rintro e w' ⟨rfl, rfl⟩; first | rw [hn] | rw [hm])
      go_ret
      exact ⟨rfl, (Below.refl _ _).alloc (Nat.le_refl _) _⟩
  · have e : prefOK b l = false := by unfold prefOK; simp only [Bool.and_eq_false_iff, decide_eq_false_iff_not]; omega
    rw [e]; clear e
    have hn : isN l 16 = false := isN_false (by omega)
    go_enter Try.func65, Try.ntmps65
    go_wp2_with (go_at_call 55; refine (isNumber_any _ _ _).mono ?_; rintro e w' ⟨rfl, rfl⟩; rw [hn])
    go_ret
    exact ⟨rfl, (Below.refl _ _).alloc (Nat.le_refl _) _⟩

theorem pB_bd (l : Int) : 0 ≤ pB l ∧ pB l ≤ 2 := by unfold pB; (repeat' split) <;> omega
theorem vB_bd (b : Bool) : 1 ≤ vB b ∧ vB b ≤ 2 := by cases b <;> simp [vB]


set_option maxHeartbeats 400000 in
theorem readPrefix_end (s : ByteArray) (a : Int) (w : World) (h0 : 0 ≤ a) (hs : s.size ≤ 140737488351232) (h1 : ¬ a < s.size) :
    Calls Try.prog 46 #[.string s, .int .i64 a] w fun e w' => Below w.heap.size w w' ∧
      e = .returned (.tuple #[.agg #[.int .i64 0, .int .i64 0], .int .i64 a, .bool false]) := by
  have hd1 : decide (a < s.size) = false := by simpa using h1
  go_enter Try.func46, Try.ntmps46
  go_wp2_with (go_at_call 44; refine (byteAt_any _ _ _ (by omega) hs).mono ?_; rintro e w' ⟨rfl, rfl⟩)
  exact bodyPost_ret (v := .tuple #[.agg #[.int .i64 0, .int .i64 0], .int .i64 a, .bool false]) (by simp [results, Try.results46, go_sem]) rfl ⟨((Below.refl _ _).alloc (Nat.le_refl _) _), rfl⟩

set_option maxHeartbeats 400000 in
theorem readPrefix_short (s : ByteArray) (a : Int) (w : World) (h0 : 0 ≤ a) (hs : s.size ≤ 140737488351232) (ha : a ≤ 140737488351232) (h1 : a < s.size) (h2 : 0 < pB (byt s a)) (h3 : s.size < a + 1 + pB (byt s a)) :
    Calls Try.prog 46 #[.string s, .int .i64 a] w fun e w' => Below w.heap.size w w' ∧
      e = .returned (.tuple #[.agg #[.int .i64 0, .int .i64 0], .int .i64 a, .bool false]) := by
  have hd1 : decide (a < s.size) = true := by simpa using h1
  have p0 := pB_bd (byt s a)
  go_enter Try.func46, Try.ntmps46
  go_wp2_with (first
    | (go_at_call 44; refine (byteAt_any _ _ _ (by omega) hs).mono ?_; rintro e w' ⟨rfl, rfl⟩)
    | (go_at_call 63; refine (prefixBytes_any _ _).mono ?_; rintro e w' ⟨rfl, rfl⟩)
    | (go_at_call 64; refine (readNumber_no _ _ _ _ (by omega) hs (by omega) (by omega) (by omega) (by omega)).mono ?_; rintro e w' ⟨rfl, rfl⟩))
  exact bodyPost_ret (v := .tuple #[.agg #[.int .i64 0, .int .i64 0], .int .i64 a, .bool false]) (by simp [results, Try.results46, go_sem]) rfl ⟨((Below.refl _ _).alloc (Nat.le_refl _) _), rfl⟩

set_option maxHeartbeats 800000 in
theorem readPrefix_one (s : ByteArray) (a : Int) (w : World) (h0 : 0 ≤ a) (hs : s.size ≤ 140737488351232) (ha : a ≤ 140737488351232) (h1 : a < s.size) (h3 : a + 1 + pB (byt s a) ≤ s.size)
    (one : Bool) (ho : (pB (byt s a) == 1) = one) (b : Int) (hb : b = if one then num s (a + 1) (pB (byt s a)).toNat * 256 else num s (a + 1) (pB (byt s a)).toNat) (ok : Bool) (hok : prefOK b (byt s a) = ok) :
    Calls Try.prog 46 #[.string s, .int .i64 a] w fun e w' => Below w.heap.size w w' ∧
      e = .returned (if ok then .tuple #[.agg #[.int .i64 b, .int .i64 (byt s a)], .int .i64 (a + 1 + pB (byt s a)), .bool true] else .tuple #[.agg #[.int .i64 0, .int .i64 0], .int .i64 a, .bool false]) := by
  have hd1 : decide (a < s.size) = true := by simpa using h1
  have p0 := pB_bd (byt s a)
  have l0 := byt_nonneg s a
  have l1 := byt_le s a
  obtain ⟨n0, n1, n2, _⟩ := num_bd s (a + 1) (pB (byt s a)).toNat (by omega)
  have n2' : one = true → num s (a + 1) (pB (byt s a)).toNat ≤ 255 := fun h => n2 (by rw [h] at ho; have := beq_iff_eq.1 ho; omega)
  clear n2
  cases one
  · simp only [Bool.false_eq_true, if_false] at hb
    subst hb
    cases ok
    · go_enter Try.func46, Try.ntmps46
      go_wp2_with (first
        | (go_at_call 44; refine (byteAt_any _ _ _ (by omega) hs).mono ?_; rintro e w' ⟨rfl, rfl⟩)
        | (go_at_call 63; refine (prefixBytes_any _ _).mono ?_; rintro e w' ⟨rfl, rfl⟩)
        | (go_at_call 64; refine (readNumber_ok _ _ _ _ (by omega) hs (by omega) (by omega) (by omega) (by omega)).mono ?_; rintro e w' ⟨rfl, rfl⟩)
        | (go_at_call 65; refine (isPrefix_any _ _ _).mono ?_; rintro e w' ⟨rfl, hbel⟩; obtain ⟨hc, hf⟩ := bcell hbel))
      have c0 : w'.cell? ⟨w.heap.size, 0, none⟩ = some (.int .i64 0) := (hc _ _ (by simp; omega)).trans (by simp [go_sem])
      have c1 : w'.cell? ⟨w.heap.size, 1, none⟩ = some (.int .i64 0) := (hc _ _ (by simp; omega)).trans (by simp [go_sem])
      refine bodyPost_ret (v := .tuple #[.agg #[.int .i64 0, .int .i64 0], .int .i64 a, .bool false]) (by simp [results, Try.results46, go_sem, c0, c1]) rfl ⟨?_, rfl⟩
      exact ((((((Below.refl _ _).alloc (Nat.le_refl _) _).alloc (by simp) _).trans (hbel.mono (by simp; omega))).setCell (Nat.le_refl _) _).setCell (Nat.le_refl _) _)
    · go_enter Try.func46, Try.ntmps46
      go_wp2_with (first
        | (go_at_call 44; refine (byteAt_any _ _ _ (by omega) hs).mono ?_; rintro e w' ⟨rfl, rfl⟩)
        | (go_at_call 63; refine (prefixBytes_any _ _).mono ?_; rintro e w' ⟨rfl, rfl⟩)
        | (go_at_call 64; refine (readNumber_ok _ _ _ _ (by omega) hs (by omega) (by omega) (by omega) (by omega)).mono ?_; rintro e w' ⟨rfl, rfl⟩)
        | (go_at_call 65; refine (isPrefix_any _ _ _).mono ?_; rintro e w' ⟨rfl, hbel⟩; obtain ⟨hc, hf⟩ := bcell hbel))
      have c0 : w'.cell? ⟨w.heap.size, 0, none⟩ = some (.int .i64 0) := (hc _ _ (by simp; omega)).trans (by simp [go_sem])
      have c1 : w'.cell? ⟨w.heap.size, 1, none⟩ = some (.int .i64 0) := (hc _ _ (by simp; omega)).trans (by simp [go_sem])
      refine bodyPost_ret (v := .tuple #[.agg #[.int .i64 (num s (a + 1) (pB (byt s a)).toNat), .int .i64 (byt s a)], .int .i64 (a + 1 + pB (byt s a)), .bool true]) (by simp [results, Try.results46, go_sem, c0, c1]) rfl ⟨?_, rfl⟩
      exact ((((((Below.refl _ _).alloc (Nat.le_refl _) _).alloc (by simp) _).trans (hbel.mono (by simp; omega))).setCell (Nat.le_refl _) _).setCell (Nat.le_refl _) _)
  · simp only [if_true] at hb
    subst hb
    have n3 := n2' rfl
    clear n2'
    cases ok
    · go_enter Try.func46, Try.ntmps46
      go_wp2_with (first
        | (go_at_call 44; refine (byteAt_any _ _ _ (by omega) hs).mono ?_; rintro e w' ⟨rfl, rfl⟩)
        | (go_at_call 63; refine (prefixBytes_any _ _).mono ?_; rintro e w' ⟨rfl, rfl⟩)
        | (go_at_call 64; refine (readNumber_ok _ _ _ _ (by omega) hs (by omega) (by omega) (by omega) (by omega)).mono ?_; rintro e w' ⟨rfl, rfl⟩)
        | (go_at_call 65; refine (isPrefix_any _ _ _).mono ?_; rintro e w' ⟨rfl, hbel⟩; obtain ⟨hc, hf⟩ := bcell hbel))
      have c0 : w'.cell? ⟨w.heap.size, 0, none⟩ = some (.int .i64 0) := (hc _ _ (by simp; omega)).trans (by simp [go_sem])
      have c1 : w'.cell? ⟨w.heap.size, 1, none⟩ = some (.int .i64 0) := (hc _ _ (by simp; omega)).trans (by simp [go_sem])
      refine bodyPost_ret (v := .tuple #[.agg #[.int .i64 0, .int .i64 0], .int .i64 a, .bool false]) (by simp [results, Try.results46, go_sem, c0, c1]) rfl ⟨?_, rfl⟩
      exact ((((((Below.refl _ _).alloc (Nat.le_refl _) _).alloc (by simp) _).trans (hbel.mono (by simp; omega))).setCell (Nat.le_refl _) _).setCell (Nat.le_refl _) _)
    · go_enter Try.func46, Try.ntmps46
      go_wp2_with (first
        | (go_at_call 44; refine (byteAt_any _ _ _ (by omega) hs).mono ?_; rintro e w' ⟨rfl, rfl⟩)
        | (go_at_call 63; refine (prefixBytes_any _ _).mono ?_; rintro e w' ⟨rfl, rfl⟩)
        | (go_at_call 64; refine (readNumber_ok _ _ _ _ (by omega) hs (by omega) (by omega) (by omega) (by omega)).mono ?_; rintro e w' ⟨rfl, rfl⟩)
        | (go_at_call 65; refine (isPrefix_any _ _ _).mono ?_; rintro e w' ⟨rfl, hbel⟩; obtain ⟨hc, hf⟩ := bcell hbel))
      have c0 : w'.cell? ⟨w.heap.size, 0, none⟩ = some (.int .i64 0) := (hc _ _ (by simp; omega)).trans (by simp [go_sem])
      have c1 : w'.cell? ⟨w.heap.size, 1, none⟩ = some (.int .i64 0) := (hc _ _ (by simp; omega)).trans (by simp [go_sem])
      refine bodyPost_ret (v := .tuple #[.agg #[.int .i64 (num s (a + 1) (pB (byt s a)).toNat * 256), .int .i64 (byt s a)], .int .i64 (a + 1 + pB (byt s a)), .bool true]) (by simp [results, Try.results46, go_sem, c0, c1]) rfl ⟨?_, rfl⟩
      exact ((((((Below.refl _ _).alloc (Nat.le_refl _) _).alloc (by simp) _).trans (hbel.mono (by simp; omega))).setCell (Nat.le_refl _) _).setCell (Nat.le_refl _) _)

theorem readPrefix_any (s : ByteArray) (a : Int) (w : World) (h0 : 0 ≤ a) (hs : s.size ≤ 140737488351232) (ha : a ≤ 140737488351232) :
    Calls Try.prog 46 #[.string s, .int .i64 a] w fun e w' => Below w.heap.size w w' ∧
      e = .returned (match rdPref s a.toNat with
        | some (b, l, n) => .tuple #[.agg #[.int .i64 b, .int .i64 l], .int .i64 n, .bool true]
        | none => .tuple #[.agg #[.int .i64 0, .int .i64 0], .int .i64 a, .bool false]) := by
  have p0 := pB_bd (byt s a)
  have ea : ((a.toNat : Nat) : Int) = a := by omega
  unfold rdPref
  rw [ea]
  by_cases h1 : a < s.size
  · rw [if_pos (by omega)]
    simp only []
    by_cases h2 : a + 1 + pB (byt s a) ≤ s.size
    · rw [if_pos (by omega)]
      refine (readPrefix_one s a w h0 hs ha h1 h2 _ rfl _ rfl _ rfl).mono fun e w' ⟨hb, he⟩ => ⟨hb, ?_⟩
      rw [he]
      have e1 : ((pB (byt s a) == 1) = true) = ((pB (byt s a)).toNat = 1) := by rw [beq_iff_eq]; exact propext ⟨fun h => by omega, fun h => by omega⟩
      simp only [e1]
      have e2 : a + 1 + pB (byt s a) = ((a.toNat + 1 + (pB (byt s a)).toNat : Nat) : Int) := by omega
      rw [e2]
      generalize (if (pB (byt s a)).toNat = 1 then num s (a + 1) (pB (byt s a)).toNat * 256 else num s (a + 1) (pB (byt s a)).toNat) = B
      cases prefOK B (byt s a) <;> rfl
    · rw [if_neg (by omega)]
      exact (readPrefix_short s a w h0 hs ha h1 (by omega) (by omega)).mono fun e w' h => h
  · rw [if_neg (by omega)]
    exact (readPrefix_end s a w h0 hs h1).mono fun e w' h => h
end Go.Proofs.Ytkdcjcemeipkjaa
