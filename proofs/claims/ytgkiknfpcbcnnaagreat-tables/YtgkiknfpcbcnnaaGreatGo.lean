import Derived.Test.YtgkiknfpcbcnnaaGreatGl
import Derived.Test.YtgkiknfpcbcnnaaGreatGd
import Derived.Deep.AppendLies
namespace Go.Proofs.YtgkiknfpcbcnnaaGreat
open Go.RowKit
set_option maxRecDepth 20000
theorem anyB_split (f : Nat → Bool) (lo n : Nat) : ∀ m, anyB f lo (n + m) = (anyB f lo n || anyB f (lo + n) m) := by
  intro m
  induction m with
  | zero => simp [anyB]
  | succ m ih => rw [← Nat.add_assoc]; simp only [anyB]; rw [ih, Bool.or_assoc, Nat.add_assoc]
theorem yesB_split (f : Nat → Bool) (k x : Nat) : yesB f (k + 1) x = (yesB f k (2 * x) || yesB f k (2 * x + 1)) := by
  unfold yesB
  have e1 : x * 2 ^ (k + 1) = 2 * x * 2 ^ k := by rw [Nat.pow_succ, Nat.mul_comm (2 ^ k) 2, ← Nat.mul_assoc, Nat.mul_comm x 2]
  have e2 : 2 ^ (k + 1) = 2 ^ k + 2 ^ k := by rw [Nat.pow_succ]; omega
  have e3 : (2 * x + 1) * 2 ^ k = 2 * x * 2 ^ k + 2 ^ k := by rw [Nat.add_mul, Nat.one_mul]
  rw [e1, e2, anyB_split, e3]
theorem noB_split (f : Nat → Bool) (k x : Nat) : noB f (k + 1) x = (noB f k (2 * x) || noB f k (2 * x + 1)) := yesB_split (fun v => !f v) k x
theorem all_no {f : Nat → Bool} {k x : Nat} (h : noB f k x = false) : f (x * 2 ^ k) = true := by
  have := anyB_not (f := fun v => !f v) h (Nat.le_refl _) (by have := Nat.two_pow_pos k; omega)
  simpa using this
theorem no_yes {f : Nat → Bool} {k x : Nat} (h : noB f k x = false) : yesB f k x = true :=
  (anyB_iff f _ _).2 ⟨x * 2 ^ k, Nat.le_refl _, by have := Nat.two_pow_pos k; omega, all_no h⟩
def covN (f : Nat → Bool) : Nat → Nat → List (Nat × Nat)
  | 0, x => if f x then [(x, 1)] else []
  | n + 1, x => if yesB f (n + 1) x then (if noB f (n + 1) x then covN f n (2 * x) ++ covN f n (2 * x + 1) else [(x * 2 ^ (n + 1), 2 ^ (n + 1))]) else []
theorem covN_eq (f : Nat → Bool) (n x : Nat) :
    (yesB f n x = false → covN f n x = []) ∧ (noB f n x = false → covN f n x = [(x * 2 ^ n, 2 ^ n)]) ∧
    (yesB f n x = true → noB f n x = true → ∃ k, n = k + 1 ∧ covN f n x = covN f k (2 * x) ++ covN f k (2 * x + 1)) := by
  cases n with
  | zero =>
    have e1 : yesB f 0 x = f x := by unfold yesB; simp [anyB]
    have e2 : noB f 0 x = !f x := by unfold noB; simp [anyB]
    rw [e1, e2]
    refine ⟨fun h => by simp [covN, h], fun h => ?_, fun h1 h2 => by rw [h1] at h2; simp at h2⟩
    have : f x = true := by simpa using h
    simp [covN, this]
  | succ n =>
    refine ⟨fun h => by simp [covN, h], fun h => by simp [covN, no_yes h, h], fun h1 h2 => ⟨n, rfl, by simp [covN, h1, h2]⟩⟩
theorem covN_size (f : Nat → Bool) : ∀ n x, ∀ b ∈ covN f n x, b.2 ≤ 2 ^ n := by
  intro n
  induction n with
  | zero => intro x b hb; simp only [covN] at hb; split at hb <;> simp at hb; rw [hb]; simp
  | succ n ih =>
    intro x b hb
    simp only [covN] at hb
    have hp : 2 ^ (n + 1) = 2 ^ n + 2 ^ n := by rw [Nat.pow_succ]; omega
    split at hb
    · split at hb
      · rw [List.mem_append] at hb
        rcases hb with hb | hb
        · have := ih _ b hb; omega
        · have := ih _ b hb; omega
      · simp at hb; rw [hb]; exact Nat.le_refl _
    · simp at hb
def whN (L : List (Nat × Nat)) (z : Nat) : Bool := decide (L.length = 1) && decide ((L.headD (0, 0)).2 = z)
theorem whN_cov (f : Nat → Bool) (k y : Nat) : whN (covN f k y) (2 ^ k) = !noB f k y := by
  obtain ⟨h1, h2, h3⟩ := covN_eq f k y
  cases hn : noB f k y
  · rw [h2 hn]; simp [whN]
  · cases hy : yesB f k y
    · rw [h1 hy]; simp [whN]
    · obtain ⟨m, rfl, he⟩ := h3 hy hn
      have hs : ∀ b ∈ covN f (m + 1) y, b.2 ≤ 2 ^ m := by
        intro b hb
        rw [he, List.mem_append] at hb
        rcases hb with hb | hb
        · exact covN_size f m _ b hb
        · exact covN_size f m _ b hb
      unfold whN
      cases hL : covN f (m + 1) y with
      | nil => simp
      | cons b r =>
        have := hs b (by rw [hL]; simp)
        have hp : 2 ^ (m + 1) = 2 ^ m + 2 ^ m := by rw [Nat.pow_succ]; omega
        have hq := Nat.two_pow_pos m
        have : ¬ b.2 = 2 ^ (m + 1) := by omega
        simp [this]
theorem covN_halves (f : Nat → Bool) (k x : Nat) : covN f (k + 1) x = if whN (covN f k (2 * x)) (2 ^ k) && whN (covN f k (2 * x + 1)) (2 ^ k) then [(x * 2 ^ (k + 1), 2 ^ (k + 1))] else covN f k (2 * x) ++ covN f k (2 * x + 1) := by
  rw [whN_cov, whN_cov]
  have hs := noB_split f k x
  have hy := yesB_split f k x
  cases h1 : noB f k (2 * x) <;> cases h2 : noB f k (2 * x + 1)
  · rw [h1, h2] at hs
    simp only [Bool.or_false] at hs
    simp only [Bool.not_false, Bool.and_true, if_true]
    exact (covN_eq f (k + 1) x).2.1 hs
  all_goals
    rw [h1, h2] at hs
    simp only [Bool.or_true, Bool.or_false] at hs
    simp only [Bool.not_false, Bool.not_true, Bool.and_true, Bool.and_false, Bool.false_eq_true, if_false]
    cases h3 : yesB f (k + 1) x
    · rw [h3] at hy
      have hy' := hy.symm
      rw [Bool.or_eq_false_iff] at hy'
      rw [(covN_eq f (k + 1) x).1 h3, (covN_eq f k (2 * x)).1 hy'.1, (covN_eq f k (2 * x + 1)).1 hy'.2]
      rfl
    · obtain ⟨m, hm, he⟩ := (covN_eq f (k + 1) x).2.2 h3 hs
      obtain rfl : k = m := by omega
      exact he
theorem covN_same (f : Nat → Bool) (n x : Nat) (h : ∀ v, x * 2 ^ n ≤ v → v < x * 2 ^ n + 2 ^ n → f v = f (x * 2 ^ n)) : covN f n x = if f (x * 2 ^ n) then [(x * 2 ^ n, 2 ^ n)] else [] := by
  cases hf : f (x * 2 ^ n)
  · have : yesB f n x = false := by
      cases hy : yesB f n x
      · rfl
      · obtain ⟨v, h1, h2, h3⟩ := (anyB_iff f _ _).1 hy
        rw [h v h1 h2, hf] at h3; cases h3
    rw [(covN_eq f n x).1 this]; rfl
  · have : noB f n x = false := by
      cases hy : noB f n x
      · rfl
      · obtain ⟨v, h1, h2, h3⟩ := (anyB_iff (fun v => !f v) _ _).1 hy
        simp only [h v h1 h2, hf] at h3; cases h3
    rw [(covN_eq f n x).2.1 this]; rfl
theorem covN_len (f : Nat → Bool) : ∀ n x, (covN f n x).length ≤ 2 ^ n := by
  intro n
  induction n with
  | zero => intro x; simp only [covN]; split <;> simp
  | succ n ih =>
    intro x
    simp only [covN]
    split
    · split
      · rw [List.length_append, Nat.pow_succ]; have h1 := ih (2 * x); have h2 := ih (2 * x + 1); omega
      · simp; exact Nat.one_le_two_pow
    · simp
theorem covN_in (f : Nat → Bool) : ∀ n x, ∀ b ∈ covN f n x, b.1 + b.2 ≤ (x + 1) * 2 ^ n := by
  intro n
  induction n with
  | zero => intro x b hb; simp only [covN] at hb; split at hb <;> simp at hb; rw [hb]; simp
  | succ n ih =>
    intro x b hb
    have e0 : (x + 1) * 2 ^ (n + 1) = (2 * x + 2) * 2 ^ n := by rw [Nat.pow_succ, Nat.mul_comm (2 ^ n) 2, ← Nat.mul_assoc]; congr 1; omega
    simp only [covN] at hb
    split at hb
    · split at hb
      · rw [List.mem_append] at hb
        rw [e0]
        rcases hb with hb | hb
        · have h1 := ih _ b hb
          have h2 : (2 * x + 1) * 2 ^ n ≤ (2 * x + 2) * 2 ^ n := Nat.mul_le_mul_right _ (by omega)
          omega
        · exact ih _ b hb
      · simp at hb; rw [hb, Nat.add_mul, Nat.one_mul]; exact Nat.le_refl _
    · simp at hb
theorem covN_pos (f : Nat → Bool) : ∀ n x, ∀ b ∈ covN f n x, 1 ≤ b.2 := by
  intro n
  induction n with
  | zero => intro x b hb; simp only [covN] at hb; split at hb <;> simp at hb; rw [hb]; simp
  | succ n ih =>
    intro x b hb
    simp only [covN] at hb
    split at hb
    · split at hb
      · rw [List.mem_append] at hb
        rcases hb with hb | hb
        · exact ih _ b hb
        · exact ih _ b hb
      · simp at hb; rw [hb]; exact Nat.one_le_two_pow
    · simp at hb
def txL (a z : Nat) : Nat → List UInt8
  | 0 => []
  | j + 1 => (if 2 ^ j < z then 42 else dgL (a / 2 ^ j)) :: txL a z j
theorem txL_one (a : Nat) : ∀ m, txL a 1 m = binL a m := by
  intro m
  induction m with
  | zero => rfl
  | succ m ih =>
    have : ¬ 2 ^ m < 1 := by have := Nat.two_pow_pos m; omega
    simp only [txL, binL, ih, if_neg this]
theorem txL_stars (a k : Nat) : ∀ j, j ≤ k → txL a (2 ^ k) j = List.replicate j 42 := by
  intro j
  induction j with
  | zero => intro _; rfl
  | succ j ih =>
    intro h
    have : 2 ^ j < 2 ^ k := Nat.pow_lt_pow_right (by omega) (by omega)
    simp only [txL, if_pos this, ih (by omega), List.replicate_succ]
theorem txL_block (x k : Nat) : ∀ m, txL (x * 2 ^ k) (2 ^ k) (m + k) = binL x m ++ List.replicate k 42 := by
  intro m
  induction m with
  | zero => rw [Nat.zero_add, txL_stars _ k k (Nat.le_refl _)]; rfl
  | succ m ih =>
    have e : m + 1 + k = (m + k) + 1 := by omega
    have h : ¬ 2 ^ (m + k) < 2 ^ k := by have := Nat.pow_le_pow_right (n := 2) (by omega) (show k ≤ m + k by omega); omega
    rw [e]
    simp only [txL, if_neg h, ih, binL, List.cons_append]
    congr 2
    rw [Nat.pow_add, Nat.mul_div_mul_right _ _ (Nat.two_pow_pos k)]
theorem binL_snoc (v : Nat) : ∀ m, binL v (m + 1) = binL (v / 2) m ++ [dgL v] := by
  intro m
  induction m with
  | zero => simp [binL]
  | succ m ih =>
    have e1 : binL v (m + 1 + 1) = dgL (v / 2 ^ (m + 1)) :: binL v (m + 1) := rfl
    have e2 : binL (v / 2) (m + 1) = dgL (v / 2 / 2 ^ m) :: binL (v / 2) m := rfl
    rw [e1, e2, ih, Nat.div_div_eq_div_mul, Nat.pow_succ, Nat.mul_comm 2]
    rfl
theorem dgL_even (x : Nat) : dgL (2 * x) = 48 := by unfold dgL; rw [if_neg (by omega)]
theorem dgL_odd (x : Nat) : dgL (2 * x + 1) = 49 := by unfold dgL; rw [if_pos (by omega)]
theorem covN_text (f : Nat → Bool) : ∀ n m x, (covN f n x).map (fun b => txL b.1 b.2 (m + n)) = covS f n (binL x m) x := by
  intro n
  induction n with
  | zero =>
    intro m x
    simp only [covN, covS, Nat.add_zero]
    split
    · simp [txL_one]
    · rfl
  | succ n ih =>
    intro m x
    simp only [covN, covS]
    have e : m + (n + 1) = (m + 1) + n := by omega
    split
    · split
      · rw [List.map_append, e, ih (m + 1) (2 * x), ih (m + 1) (2 * x + 1), binL_snoc, binL_snoc, dgL_even, dgL_odd]
        have q1 : 2 * x / 2 = x := by omega
        have q2 : (2 * x + 1) / 2 = x := by omega
        rw [q1, q2]
      · simp only [List.map_cons, List.map_nil]
        rw [txL_block]
    · rfl
end Go.Proofs.YtgkiknfpcbcnnaaGreat
namespace Go.Proofs.YtgkiknfpcbcnnaaGreat
open Go.RowKit
set_option maxRecDepth 20000
def tdB (k : Int) (t : Tm) (a z : Nat) : Bool := if k = 5 then !decide (t.vl.toNat % z = 0) else isN (t.vl - a) ((z : Int) - 1)
def mdB (k : Int) (ts : List Tm) (a z : Nat) : Bool := decide (1 < z) && ts.any fun t => tdB k t a z
theorem land_same (v q x n : Nat) (h : v / 2 ^ n = x) : v &&& (q * 2 ^ n) = (x * 2 ^ n) &&& (q * 2 ^ n) := by
  subst h
  apply Nat.eq_of_testBit_eq
  intro i
  rw [Nat.testBit_and, Nat.testBit_and, Nat.testBit_mul_two_pow, Nat.testBit_mul_two_pow]
  by_cases hi : n ≤ i
  · rw [Nat.testBit_div_two_pow]
    have e : i - n + n = i := by omega
    simp [hi, e]
  · simp [hi]
theorem tmH_same (k : Int) (t : Tm) (n x v : Nat) (hT : isT k t = true) (hd : tdB k t (x * 2 ^ n) (2 ^ n) = false) (h1 : x * 2 ^ n ≤ v) (h2 : v < x * 2 ^ n + 2 ^ n) (h5 : k = 5 → v ≤ 255) : tmH k t (v : Int) = tmH k t ((x * 2 ^ n : Nat) : Int) := by
  obtain ⟨o0, o1, v0, v1, w5⟩ := isT_op k t hT
  unfold tmH
  unfold tdB at hd
  by_cases hk : k = 5
  · rw [if_pos hk] at hd
    rw [if_pos hk, if_pos hk]
    have hw := w5 hk
    rw [hw] at v1
    have v2 : t.vl ≤ 255 := v1
    obtain ⟨vl, hvl⟩ := Int.eq_ofNat_of_zero_le v0
    rw [hvl] at hd v2
    have hm : vl % 2 ^ n = 0 := by simpa using hd
    have hq : vl = vl / 2 ^ n * 2 ^ n := by have := Nat.div_add_mod vl (2 ^ n); rw [hm, Nat.mul_comm] at this; omega
    have hx : v / 2 ^ n = x := by
      have hp := Nat.two_pow_pos n
      have e : v = (v - x * 2 ^ n) + x * 2 ^ n := by omega
      rw [e, Nat.add_mul_div_right _ _ hp, Nat.div_eq_of_lt (by omega)]
      omega
    have b5 := h5 hk
    have e1 : bits BinOp.and IntKind.i64 (v : Int) t.vl = bits BinOp.and IntKind.i64 ((x * 2 ^ n : Nat) : Int) t.vl := by
      rw [hvl]
      show bits BinOp.and IntKind.i64 (v : Int) ((vl : Nat) : Int) = bits BinOp.and IntKind.i64 ((x * 2 ^ n : Nat) : Int) ((vl : Nat) : Int)
      rw [bits_and_nat v vl (by omega) (by omega), bits_and_nat (x * 2 ^ n) vl (by omega) (by omega)]
      congr 1
      rw [hq]
      exact land_same v _ x n hx
    unfold fH fY
    rw [e1]
  · rw [if_neg hk] at hd
    rw [if_neg hk, if_neg hk]
    have ho : t.vl < ((x * 2 ^ n : Nat) : Int) ∨ ((x * 2 ^ n : Nat) : Int) + ((2 ^ n : Nat) : Int) ≤ t.vl := by
      simp only [isN, Bool.and_eq_false_iff, decide_eq_false_iff_not] at hd
      rcases hd with hd | hd
      · left; omega
      · right; omega
    generalize 2 ^ n = z at *
    generalize x * z = a at *
    unfold tH
    have a1 : decide ((v : Int) < t.vl) = decide ((a : Int) < t.vl) := decide_eq_decide.2 (by omega)
    have a2 : decide (t.vl < (v : Int)) = decide (t.vl < (a : Int)) := decide_eq_decide.2 (by omega)
    have a3 : decide ((v : Int) = t.vl) = decide ((a : Int) = t.vl) := decide_eq_decide.2 (by omega)
    rw [a1, a2, a3]
theorem gH_same (k : Int) (ts : List Tm) (n x : Nat) (hall : allT k true ts = true) (hd : mdB k ts (x * 2 ^ n) (2 ^ n) = false) (h5 : k = 5 → x * 2 ^ n + 2 ^ n ≤ 256) :
    ∀ v, x * 2 ^ n ≤ v → v < x * 2 ^ n + 2 ^ n → gH k (v : Int) ts = gH k ((x * 2 ^ n : Nat) : Int) ts := by
  intro v h1 h2
  unfold mdB at hd
  rw [Bool.and_eq_false_iff] at hd
  rcases hd with hd | hd
  · have : ¬ 1 < 2 ^ n := by simpa using hd
    have : v = x * 2 ^ n := by omega
    rw [this]
  · refine gH_congr fun t ht => ?_
    obtain ⟨j, hj, rfl⟩ := List.getElem_of_mem ht
    have htd : tdB k ts[j] (x * 2 ^ n) (2 ^ n) = false := by
      rw [List.any_eq_false] at hd
      have := hd _ ht
      simpa using this
    exact tmH_same k ts[j] n x v (allT_get _ _ _ hall j hj) htd h1 h2 (fun h => by have := h5 h; omega)
theorem cov_flat (k : Int) (ts : List Tm) (n x : Nat) (hall : allT k true ts = true) (hd : mdB k ts (x * 2 ^ n) (2 ^ n) = false) (h5 : k = 5 → x * 2 ^ n + 2 ^ n ≤ 256) :
    covN (fun v => gH k v ts) n x = if gH k ((x * 2 ^ n : Nat) : Int) ts then [(x * 2 ^ n, 2 ^ n)] else [] :=
  covN_same (fun v => gH k (v : Int) ts) n x (gH_same k ts n x hall hd h5)
def nzC (b : Nat × Nat) : List Value := [.int .i64 (b.1 : Int), .int .i64 (b.2 : Int)]
def nzCs (L : List (Nat × Nat)) : List Value := L.flatMap nzC
theorem nzCs_snoc (l : List (Nat × Nat)) (t : Nat × Nat) : nzCs (l ++ [t]) = nzCs l ++ nzC t := by simp [nzCs]
theorem nzCs_get : ∀ (L : List (Nat × Nat)) (i : Nat) (h : i < L.length), (nzCs L)[i * 2]? = some (.int .i64 (L[i].1 : Int)) ∧ (nzCs L)[i * 2 + 1]? = some (.int .i64 (L[i].2 : Int)) := by
  intro L
  induction L with
  | nil => intro i h; simp at h
  | cons a l ih =>
    intro i h
    have e : nzCs (a :: l) = .int .i64 (a.1 : Int) :: .int .i64 (a.2 : Int) :: nzCs l := rfl
    rw [e]
    cases i with
    | zero => exact ⟨rfl, rfl⟩
    | succ i =>
      have e1 : (i + 1) * 2 = i * 2 + 1 + 1 := by omega
      rw [e1]
      simp only [List.getElem?_cons_succ, List.getElem_cons_succ]
      exact ih i (by simpa using h)
def BRow (w : World) (B : Nat) (v : Value) (L : List (Nat × Nat)) : Prop := w.ownsRow B 192 2 v L.length (nzCs L)
theorem BRow.nil (w : World) (B : Nat) : BRow w B (.slice none 0 0) [] := World.ownsRow_nil _ _ _ _
theorem BRow.below {w w' : World} {B : Nat} {v : Value} {L : List (Nat × Nat)} (h : BRow w B v L) (hb : Below w.heap.size w w') : BRow w' B v L := ownsRow_below h hb
theorem BRow.base {w : World} {B B' : Nat} {v : Value} {L : List (Nat × Nat)} (h : BRow w B v L) (hb : B' ≤ B) : BRow w B' v L := ownsRow_base h hb
theorem BRow.one (w : World) (B : Nat) (a z : Nat) (hB : B ≤ w.heap.size) : BRow (w.alloc (.cells #[.int .i64 (a : Int), .int .i64 (z : Int)] 192)) B (.slice (some ⟨w.heap.size, 0, none⟩) 1 1) [(a, z)] :=
  ⟨rfl, .inr ⟨w.heap.size, 1, #[.int .i64 (a : Int), .int .i64 (z : Int)], rfl, hB, heap_alloc_new w _, Nat.le_refl _, by unfold maxLen; omega, rfl, rfl⟩⟩
theorem BRow.get {w : World} {B : Nat} {ao : Option Addr} {n c : Nat} {L : List (Nat × Nat)} (h : BRow w B (.slice ao n c) L) (hl : 0 < L.length) : ∃ g, ao = some ⟨g, 0, none⟩ ∧ B ≤ g ∧ g < w.heap.size ∧ ∀ i (hi : i < L.length), w.cell? ⟨g, i * 2, none⟩ = some (.int .i64 (L[i].1 : Int)) ∧ w.cell? ⟨g, i * 2 + 1, none⟩ = some (.int .i64 (L[i].2 : Int)) := by
  rcases h.2 with ⟨_, h0⟩ | ⟨g, c', cur, hv, hg, hh, _⟩
  · omega
  · simp only [Value.slice.injEq] at hv
    refine ⟨g, hv.1, hg, lt_of_block hh, fun i hi => ?_⟩
    obtain ⟨e1, e2⟩ := nzCs_get L i hi
    have c1 := h.cells (g := g) (by rw [hv.1]; rfl) (i * 2) _ e1
    have c2 := h.cells (g := g) (by rw [hv.1]; rfl) (i * 2 + 1) _ e2
    rw [add0] at c1 c2
    rw [Nat.zero_add] at c1 c2
    exact ⟨c1, c2⟩
end Go.Proofs.YtgkiknfpcbcnnaaGreat
namespace Go.Proofs.YtgkiknfpcbcnnaaGreat
open Go.RowKit
set_option maxRecDepth 20000
theorem mask_ne (v n : Nat) (hv : v ≤ 65535) (hn : n ≤ 16) : (bits BinOp.and IntKind.i64 (v : Int) ((2 ^ n - 1 : Nat) : Int) != 0) = !decide (v % 2 ^ n = 0) := by
  rw [bits_mask v n hv hn]
  rw [Bool.eq_iff_iff]
  simp only [bne_iff_ne, ne_eq, Bool.not_eq_true', decide_eq_false_iff_not]
  omega
theorem cells_pr {w : World} {a b : Value} {ty : Nat} {w1 : World} (hb : Below (w.alloc (.cells #[a, b] ty)).heap.size (w.alloc (.cells #[a, b] ty)) w1) :
    w1.cell? ⟨w.heap.size, 0, none⟩ = some a ∧ w1.cell? ⟨w.heap.size, 1, none⟩ = some b ∧ w.heap.size < w1.heap.size := by
  have hz := hb.size
  simp only [World.size_alloc] at hz
  refine ⟨?_, ?_, by omega⟩
  all_goals exact (hb.cell (by simp)).trans (by simp [go_sem])
set_option maxHeartbeats 800000 in
theorem termDivides_any (t : Tm) (k : Int) (a n : Nat) (w : World) (hT : isT k t = true) (ha : a ≤ 65536) (hn : n ≤ 16) :
    Calls Tryz.prog 147 #[.agg #[.bool t.an, .bool t.wd, .int .i64 t.op, .int .i64 t.vl], .int .i64 k, .agg #[.int .i64 (a : Int), .int .i64 ((2 ^ n : Nat) : Int)]] w fun e w' => e = .returned (.bool (tdB k t a (2 ^ n))) ∧ Below w.heap.size w w' := by
  obtain ⟨o0, o1, v0, v1, w5⟩ := isT_op k t hT
  have v2 : t.vl ≤ 65535 := by unfold mxV at v1; split at v1 <;> omega
  obtain ⟨an, wd, op, vl⟩ := t
  simp only [] at v0 v2
  obtain ⟨v, rfl⟩ := Int.eq_ofNat_of_zero_le v0
  have hp := pow_bd n hn
  unfold tdB
  by_cases hk : k = 5
  · subst hk
    have hm : Hid ((bits BinOp.and IntKind.i64 (v : Int) ((2 ^ n - 1 : Nat) : Int) != 0) = !decide (v % 2 ^ n = 0)) := mask_ne v n (by omega) hn
    have e1 : ((2 ^ n : Nat) : Int) - 1 = ((2 ^ n - 1 : Nat) : Int) := by omega
    go_enter Tryz.func147, Tryz.ntmps147
    generalize 2 ^ n = z at *
    go_wp2
    go_ret
    refine ⟨?_, (below_alloc _ _).alloc (by simp) _⟩
    show Ending.returned (.bool (bits BinOp.and IntKind.i64 (v : Int) ((z - 1 : Nat) : Int) != 0)) = _
    rw [hm.out]
  · rw [if_neg hk]
    have hk' : (k == 5) = false := by simpa using hk
    go_enter Tryz.func147, Tryz.ntmps147
    generalize 2 ^ n = z at *
    go_wp2_with (go_at_call 149; refine (isNumber_any _ _ _).mono ?_; rintro e w' ⟨rfl, rfl⟩)
    go_ret
    exact ⟨rfl, (below_alloc _ _).alloc (by simp) _⟩
set_option maxHeartbeats 800000 in
theorem mayDiffer_any (ts : List Tm) (ao : Option Addr) (cap : Nat) (k : Int) (a n : Nat) (w : World) (hlen : ts.length ≤ 8) (hall : allT k true ts = true) (ha : a ≤ 65536) (hn : n ≤ 16) (ht : TermsIn w ao ts) :
    Calls Tryz.prog 140 #[.slice ao ts.length cap, .int .i64 k, .agg #[.int .i64 (a : Int), .int .i64 ((2 ^ n : Nat) : Int)]] w fun e w' => e = .returned (.bool (mdB k ts a (2 ^ n))) ∧ Below w.heap.size w w' := by
  have hp := pow_bd n hn
  unfold mdB
  by_cases h1 : 1 < 2 ^ n
  · rw [decide_eq_true h1, Bool.true_and]
    have H0 : Hid (∀ z : Nat, z = 2 ^ n → ∀ j (h : j < ts.length) (w : World), Calls Tryz.prog 147 #[.agg #[.bool ts[j].an, .bool ts[j].wd, .int .i64 ts[j].op, .int .i64 ts[j].vl], .int .i64 k, .agg #[.int .i64 (a : Int), .int .i64 (z : Int)]] w fun e w' => e = .returned (.bool (tdB k ts[j] a z)) ∧ Below w.heap.size w w') := by
      rintro z rfl j h w
      exact termDivides_any ts[j] k a n w (allT_get _ _ _ hall j h) ha hn
    go_enter Tryz.func140, Tryz.ntmps140
    generalize hz : 2 ^ n = z at *
    have H1 := H0.out z rfl
    have HC : Hid (∀ j (h : j < ts.length) (w : World), Calls Tryz.prog 147 #[.agg #[.bool ts[j].an, .bool ts[j].wd, .int .i64 ts[j].op, .int .i64 ts[j].vl], .int .i64 k, .agg #[.int .i64 (a : Int), .int .i64 (z : Int)]] w fun e w' => e = .returned (.bool (tdB k ts[j] a z)) ∧ Below w.heap.size w w') := H1
    clear H0 H1 hz hall
    go_wp2_with fail
    go_loopw [14] (fun x wr => ∃ j : Nat, x = .int .i64 j ∧ j ≤ ts.length ∧ Below (w.alloc (.cells #[.int .i64 (a : Int), .int .i64 (z : Int)] 192)).heap.size (w.alloc (.cells #[.int .i64 (a : Int), .int .i64 (z : Int)] 192)) wr ∧ Hid ((ts.any fun t => tdB k t a z) = ((ts.drop j).any fun t => tdB k t a z))) (fun x _ => ts.length - (intOf x).toNat)
    case atStart => exact ⟨0, rfl, Nat.zero_le _, Below.refl _ _, rfl⟩
    case round =>
      obtain ⟨j, rfl, hj, hbel, H⟩ := hrel
      obtain ⟨a0, a1, az⟩ := cells_pr hbel
      have hb0 := below_first hbel
      have hzz := hbel.size
      by_cases hlt : j < ts.length
      · obtain ⟨b, off, rfl, c0, c1, c2, c3⟩ := ht.below hb0 j hlt
        have hd : ts.drop j = ts[j] :: ts.drop (j + 1) := List.drop_eq_getElem_cons hlt
        rw [hd] at H
        have HC1 := HC.out j hlt
        clear hd ht HC
        generalize ts[j] = t at *
        obtain ⟨an, wd, op, vl⟩ := t
        simp only [] at c0 c1 c2 c3 HC1
        cases hv : tdB k ⟨an, wd, op, vl⟩ a z
        · have HN : Hid ((ts.any fun t => tdB k t a z) = ((ts.drop (j + 1)).any fun t => tdB k t a z)) := by show _ = _; rw [H.out, List.any_cons, hv, Bool.false_or]
          clear H
          go_wp2_with (go_at_call 147; refine (HC1 _).mono ?_; rintro e w1 ⟨rfl, hb1⟩; rw [hv])
          go_roundw
          case rel => exact ⟨j + 1, by go_num, by omega, (hbel.alloc hzz _).trans (hb1.mono (by simp; simp at hzz; omega)), HN⟩
          case measure => simp [intOf]; omega
        · have HN : Hid ((ts.any fun t => tdB k t a z) = true) := by show _ = _; rw [H.out, List.any_cons, hv, Bool.true_or]
          clear H
          go_wp2_with (go_at_call 147; refine (HC1 _).mono ?_; rintro e w1 ⟨rfl, hb1⟩; rw [hv])
          go_ret
          exact ⟨by rw [HN.out]; rfl, below_first ((hbel.alloc hzz _).trans (hb1.mono (by simp; simp at hzz; omega)))⟩
      · have HN : Hid ((ts.any fun t => tdB k t a z) = false) := by show _ = _; rw [H.out, List.drop_of_length_le (by omega)]; rfl
        clear H ht HC
        go_wp2_with fail
        go_ret
        exact ⟨by rw [HN.out]; rfl, hb0⟩
  · rw [decide_eq_false h1, Bool.false_and]
    go_enter Tryz.func140, Tryz.ntmps140
    generalize 2 ^ n = z at *
    go_wp2_with fail
    go_ret
    exact ⟨rfl, below_alloc _ _⟩
set_option maxHeartbeats 800000 in
theorem isWhole_any (L : List (Nat × Nat)) (ao : Option Addr) (cap : Nat) (B z : Nat) (w : World) (hr : BRow w B (.slice ao L.length cap) L) :
    Calls Tryz.prog 142 #[.slice ao L.length cap, .int .i64 (z : Int)] w fun e w' => e = .returned (.bool (whN L z)) ∧ w' = w := by
  by_cases h1 : L.length = 1
  · obtain ⟨b, rfl⟩ := List.length_eq_one_iff.1 h1
    obtain ⟨g, rfl, _, _, hc⟩ := hr.get (by omega)
    have c1 := (hc 0 (by omega)).2
    have hw : Hid (whN [b] z = ((b.2 : Int) == (z : Int))) := by
      show _ = _
      unfold whN
      rw [Bool.eq_iff_iff]
      simp
      omega
    simp only [List.length_cons, List.length_nil, Nat.zero_add, Nat.zero_mul, List.getElem_cons_zero] at c1 ⊢
    clear hc hr
    go_enter Tryz.func142, Tryz.ntmps142
    go_wp2_with fail
    go_ret
    exact ⟨by rw [hw.out]; rfl, rfl⟩
  · have hw : Hid (whN L z = false) := by show _ = _; unfold whN; rw [decide_eq_false h1, Bool.false_and]
    have d1 : ((L.length : Int) == 1) = false := by simp; omega
    clear hr
    go_enter Tryz.func142, Tryz.ntmps142
    go_wp2_with fail
    go_ret
    exact ⟨by rw [hw.out]; rfl, rfl⟩
end Go.Proofs.YtgkiknfpcbcnnaaGreat
namespace Go.Proofs.YtgkiknfpcbcnnaaGreat
open Go.RowKit
set_option maxRecDepth 20000
theorem infoBlock : (Tryz.prog.info? 192).map (fun i => (i.zero, i.size, i.bytes)) = some (some (.agg #[.int .i64 0, .int .i64 0]), 2, 16) := by kernel_rfl
def CvPost (f : Nat → Bool) (n x : Nat) (B : Nat) (e : Ending) (w' : World) : Prop := ∃ v, e = .returned v ∧ BRow w' B v (covN f n x)
def CvOK (n : Nat) : Prop := ∀ (ts : List Tm) (ao : Option Addr) (cap : Nat) (k : Int) (x W : Nat) (w : World), ts.length ≤ 8 → allT k true ts = true → n ≤ W → W ≤ 16 → (k = 5 → W = 8) → (x + 1) * 2 ^ n ≤ 2 ^ W → TermsIn w ao ts →
  Calls Tryz.prog 133 #[.slice ao ts.length cap, .int .i64 k, .agg #[.int .i64 ((x * 2 ^ n : Nat) : Int), .int .i64 ((2 ^ n : Nat) : Int)]] w fun e w' => CvPost (fun v => gH k v ts) n x w.heap.size e w' ∧ Below w.heap.size w w'
theorem nzC_one (b : Nat × Nat) : ∀ u ∈ nzC b, u.oneCell' = true := by
  intro u hu
  simp only [nzC, List.mem_cons, List.not_mem_nil, or_false] at hu
  rcases hu with rfl | rfl <;> rfl
theorem cell_two_new (w : World) (k : Nat) (a b : Value) (t : TypeId) (hk : w.heap.size = k) : ∀ j u, [a, b][j]? = some u → (w.alloc (.cells #[a, b] t)).cell? ((⟨k, 0, none⟩ : Addr).add j) = some u := by
  subst hk
  intro j u hj
  match j, hj with
  | 0, hj => simp at hj; subst hj; simp [Addr.add]
  | 1, hj => simp at hj; subst hj; simp [Addr.add]
  | n + 2, hj => simp at hj
theorem BRow.snoc {w : World} {B : Nat} {v : Value} {L : List (Nat × Nat)} {b : Nat × Nat} (h : w.ownsRow B 192 2 v (L.length + 1) (nzCs L ++ nzC b)) : BRow w B v (L ++ [b]) := by
  unfold BRow; rw [nzCs_snoc, List.length_append]; exact h
theorem BRow.still {w w' : World} {C : Nat} {v v1 : Value} {L : List (Nat × Nat)} {g H c n : Nat} (h : BRow w C v1 L) (hap : ∀ g1, v1.ownBlock = some g1 → v.ownBlock ≠ some g1) (hg : w.grownBy w' v.ownBlock) (hat : v.ownBlock = some g ∨ g = H) (hH : w.heap.size = H) :
    BRow w' C v1 L ∧ ∀ g1, v1.ownBlock = some g1 → (Value.slice (some ⟨g, 0, none⟩) n c).ownBlock ≠ some g1 := by
  refine ⟨World.ownsRow.kept h hg ?_, ?_⟩
  · cases hv : v1.ownBlock with
    | none => exact .inl rfl
    | some g1 => exact .inr fun he => hap g1 hv he.symm
  · intro g1 h1 he
    have he' : g = g1 := by simpa [Value.ownBlock] using he
    subst he'
    rcases hat with hat | hat
    · exact hap g h1 hat
    · have := (World.ownsRow.lt h g h1).2
      omega
theorem half_facts (x m : Nat) : x * 2 ^ (m + 1) = 2 * x * 2 ^ m ∧ 2 ^ (m + 1) = 2 ^ m + 2 ^ m ∧ (2 * x + 1) * 2 ^ m = 2 * x * 2 ^ m + 2 ^ m := by
  refine ⟨?_, ?_, ?_⟩
  · rw [Nat.pow_succ, Nat.mul_comm (2 ^ m) 2, ← Nat.mul_assoc, Nat.mul_comm x 2]
  · rw [Nat.pow_succ]; omega
  · rw [Nat.add_mul, Nat.one_mul]
set_option maxHeartbeats 2000000 in
theorem cv_flat (n : Nat) (ts : List Tm) (ao : Option Addr) (cap : Nat) (k : Int) (x W : Nat) (w : World) (hlen : ts.length ≤ 8) (hall : allT k true ts = true) (hnW : n ≤ W) (hW : W ≤ 16) (h5 : k = 5 → W = 8) (hx : (x + 1) * 2 ^ n ≤ 2 ^ W) (ht : TermsIn w ao ts) (hm : mdB k ts (x * 2 ^ n) (2 ^ n) = false) :
    Calls Tryz.prog 133 #[.slice ao ts.length cap, .int .i64 k, .agg #[.int .i64 ((x * 2 ^ n : Nat) : Int), .int .i64 ((2 ^ n : Nat) : Int)]] w fun e w' => CvPost (fun v => gH k v ts) n x w.heap.size e w' ∧ Below w.heap.size w w' := by
  have hbd := (pow_bd W hW).2
  rw [Nat.add_mul, Nat.one_mul] at hx
  have hc := cov_flat k ts n x hall hm (fun h => by have := h5 h; subst this; exact hx)
  have HM : Hid (∀ w, TermsIn w ao ts → Calls Tryz.prog 140 #[.slice ao ts.length cap, .int .i64 k, .agg #[.int .i64 ((x * 2 ^ n : Nat) : Int), .int .i64 ((2 ^ n : Nat) : Int)]] w fun e w' => e = .returned (.bool false) ∧ Below w.heap.size w w') := fun w h => by
    have := mayDiffer_any ts ao cap k (x * 2 ^ n) n w hlen hall (Nat.le_trans (Nat.le_add_right _ _) (Nat.le_trans hx hbd)) (Nat.le_trans hnW hW) h
    rw [hm] at this
    exact this
  have HC : Hid (covN (fun v => gH k (v : Int) ts) n x = if gH k ((x * 2 ^ n : Nat) : Int) ts then [(x * 2 ^ n, 2 ^ n)] else []) := hc
  clear hc hm
  unfold CvPost
  rw [HC.out]
  clear HC hx
  generalize hz : 2 ^ n = z at *
  generalize x * z = a at *
  clear hz
  have HG : Hid (∀ w, TermsIn w ao ts → Calls Tryz.prog 141 #[.slice ao ts.length cap, .int .i64 k, .int .i64 (a : Int)] w fun e w' => e = .returned (.bool (gH k (a : Int) ts)) ∧ Below w.heap.size w w') := fun w h => someGroupHolds_any ts ao cap k a w hlen hall h
  cases hg : gH k (a : Int) ts
  · rw [hg] at HG
    simp only [Bool.false_eq_true, if_false]
    clear hg
    go_enter Tryz.func133, Tryz.ntmps133
    go_wp2_with fail
    refine (HM.out _ (ht.below (below_alloc _ _))).mono ?_
    rintro e w1 ⟨rfl, hb1⟩
    obtain ⟨a0, a1, az⟩ := cells_pr hb1
    have hw1 := below_first hb1
    go_wp2_with fail
    refine (HG.out _ (ht.below hw1)).mono ?_
    rintro e w2 ⟨rfl, hb2⟩
    go_wp2_with fail
    go_ret
    exact ⟨⟨_, rfl, BRow.nil _ _⟩, hw1.trans (hb2.mono (by omega))⟩
  · rw [hg] at HG
    simp only [if_true]
    clear hg
    go_enter Tryz.func133, Tryz.ntmps133
    go_wp2_with fail
    refine (HM.out _ (ht.below (below_alloc _ _))).mono ?_
    rintro e w1 ⟨rfl, hb1⟩
    obtain ⟨a0, a1, az⟩ := cells_pr hb1
    have hw1 := below_first hb1
    go_wp2_with fail
    refine (HG.out _ (ht.below hw1)).mono ?_
    rintro e w2 ⟨rfl, hb2⟩
    have b0 := (hb2.cell (p := ⟨w.heap.size, 0, none⟩) az).trans a0
    have b1 := (hb2.cell (p := ⟨w.heap.size, 1, none⟩) az).trans a1
    have hz2 := hb2.size
    go_wp2_with fail
    go_ret
    have hB : Below w.heap.size w w2 := hw1.trans (hb2.mono (by omega))
    exact ⟨⟨_, rfl, BRow.one w2 _ a z (by omega)⟩, hB.alloc (by omega) _⟩
set_option maxHeartbeats 4000000 in
theorem cv_half (m : Nat) (IH : CvOK m) (ts : List Tm) (ao : Option Addr) (cap : Nat) (k : Int) (x W : Nat) (w : World) (hlen : ts.length ≤ 8) (hall : allT k true ts = true) (hnW : m + 1 ≤ W) (hW : W ≤ 16) (h5 : k = 5 → W = 8) (hx : (x + 1) * 2 ^ (m + 1) ≤ 2 ^ W) (ht : TermsIn w ao ts) (hm : mdB k ts (x * 2 ^ (m + 1)) (2 ^ (m + 1)) = true) :
    Calls Tryz.prog 133 #[.slice ao ts.length cap, .int .i64 k, .agg #[.int .i64 ((x * 2 ^ (m + 1) : Nat) : Int), .int .i64 ((2 ^ (m + 1) : Nat) : Int)]] w fun e w' => CvPost (fun v => gH k v ts) (m + 1) x w.heap.size e w' ∧ Below w.heap.size w w' := by
  obtain ⟨i0, hi, hz0, hz1, hz2⟩ := info_parts infoBlock
  have hbd := (pow_bd W hW).2
  obtain ⟨e1, e2, e3⟩ := half_facts x m
  have x0 : (2 * x + 1) * 2 ^ m ≤ 2 ^ W := by
    refine Nat.le_trans ?_ hx
    rw [Nat.add_mul x 1, Nat.one_mul, e1, e2, e3]
    exact Nat.add_le_add_left (Nat.le_add_left _ _) _
  have x1 : (2 * x + 1 + 1) * 2 ^ m ≤ 2 ^ W := by
    refine Nat.le_trans ?_ hx
    rw [Nat.add_mul x 1, Nat.one_mul, Nat.add_mul (2 * x + 1) 1, Nat.one_mul, e1, e2, e3]
    exact Nat.le_of_eq (Nat.add_assoc _ _ _)
  rw [Nat.add_mul, Nat.one_mul] at hx
  have HM : Hid (∀ w, TermsIn w ao ts → Calls Tryz.prog 140 #[.slice ao ts.length cap, .int .i64 k, .agg #[.int .i64 ((x * 2 ^ (m + 1) : Nat) : Int), .int .i64 ((2 ^ (m + 1) : Nat) : Int)]] w fun e w' => e = .returned (.bool true) ∧ Below w.heap.size w w') := fun w h => by
    have := mayDiffer_any ts ao cap k (x * 2 ^ (m + 1)) (m + 1) w hlen hall (Nat.le_trans (Nat.le_add_right _ _) (Nat.le_trans hx hbd)) (Nat.le_trans hnW hW) h
    rw [hm] at this
    exact this
  have D0 : Hid (∀ w, TermsIn w ao ts → Calls Tryz.prog 133 #[.slice ao ts.length cap, .int .i64 k, .agg #[.int .i64 ((x * 2 ^ (m + 1) : Nat) : Int), .int .i64 ((2 ^ m : Nat) : Int)]] w fun e w' => CvPost (fun v => gH k v ts) m (2 * x) w.heap.size e w' ∧ Below w.heap.size w w') := fun w h => by
    rw [e1]; exact IH ts ao cap k (2 * x) W w hlen hall (by omega) hW h5 x0 h
  have D1 : Hid (∀ w, TermsIn w ao ts → Calls Tryz.prog 133 #[.slice ao ts.length cap, .int .i64 k, .agg #[.int .i64 (((x * 2 ^ (m + 1) : Nat) : Int) + ((2 ^ m : Nat) : Int)), .int .i64 ((2 ^ m : Nat) : Int)]] w fun e w' => CvPost (fun v => gH k v ts) m (2 * x + 1) w.heap.size e w' ∧ Below w.heap.size w w') := fun w h => by
    rw [← Int.natCast_add, e1, ← e3]; exact IH ts ao cap k (2 * x + 1) W w hlen hall (by omega) hW h5 x1 h
  have HC : Hid (covN (fun v => gH k (v : Int) ts) (m + 1) x = if whN (covN (fun v => gH k (v : Int) ts) m (2 * x)) (2 ^ m) && whN (covN (fun v => gH k (v : Int) ts) m (2 * x + 1)) (2 ^ m) then [(x * 2 ^ (m + 1), 2 ^ (m + 1))] else covN (fun v => gH k (v : Int) ts) m (2 * x) ++ covN (fun v => gH k (v : Int) ts) m (2 * x + 1)) := covN_halves _ m x
  have l0 := covN_len (fun v => gH k (v : Int) ts) m (2 * x)
  have l1 := covN_len (fun v => gH k (v : Int) ts) m (2 * x + 1)
  have hpm := (pow_bd m (by omega)).2
  unfold CvPost at D0 D1 ⊢
  rw [HC.out]
  obtain ⟨R, hR⟩ : ∃ R, (if whN (covN (fun v => gH k (v : Int) ts) m (2 * x)) (2 ^ m) && whN (covN (fun v => gH k (v : Int) ts) m (2 * x + 1)) (2 ^ m) then [(x * 2 ^ (m + 1), 2 ^ (m + 1))] else covN (fun v => gH k (v : Int) ts) m (2 * x) ++ covN (fun v => gH k (v : Int) ts) m (2 * x + 1)) = R := ⟨_, rfl⟩
  have HR : Hid ((if whN (covN (fun v => gH k (v : Int) ts) m (2 * x)) (2 ^ m) && whN (covN (fun v => gH k (v : Int) ts) m (2 * x + 1)) (2 ^ m) then [(x * 2 ^ (m + 1), 2 ^ (m + 1))] else covN (fun v => gH k (v : Int) ts) m (2 * x) ++ covN (fun v => gH k (v : Int) ts) m (2 * x + 1)) = R) := hR
  rw [hR]
  clear hR
  clear HC hm IH x0 x1 e3 hall
  generalize covN (fun v => gH k (v : Int) ts) m (2 * x) = L0 at *
  generalize covN (fun v => gH k (v : Int) ts) m (2 * x + 1) = L1 at *
  have hq1 : 1 ≤ 2 ^ m := Nat.one_le_two_pow
  generalize 2 ^ m = q at *
  generalize 2 ^ (m + 1) = z at *
  clear e1
  generalize x * z = a at *
  have hq : (z : Int) / 2 = (q : Int) := by omega
  have haz : a + z ≤ 65536 := Nat.le_trans hx hbd
  have hqz : q ≤ z := by omega
  clear hx hbd e2 hW hnW h5
  go_enter Tryz.func133, Tryz.ntmps133
  go_wp2_with fail
  refine (HM.out _ (ht.below (below_alloc _ _))).mono ?_
  rintro e w1 ⟨rfl, hb1⟩
  obtain ⟨a0, a1, az⟩ := cells_pr hb1
  have hw1 := below_first hb1
  go_wp2_with fail
  refine (D0.out _ (ht.below hw1)).mono ?_
  rintro e w2 ⟨⟨v0, rfl, hr0⟩, hb2⟩
  have hw2 : Below w.heap.size w w2 := hw1.trans (hb2.mono hw1.size)
  have b0 := (hb2.cell (p := ⟨w.heap.size, 0, none⟩) az).trans a0
  have b1 := (hb2.cell (p := ⟨w.heap.size, 1, none⟩) az).trans a1
  have az2 : w.heap.size < w2.heap.size := by have := hb2.size; omega
  obtain ⟨o0, p0, rfl⟩ := ownsRow_shape hr0
  go_wp2_with fail
  refine (D1.out _ (ht.below hw2)).mono ?_
  rintro e w3 ⟨⟨v1, rfl, hr1⟩, hb3⟩
  have hw3 : Below w.heap.size w w3 := hw2.trans (hb3.mono hw2.size)
  have c0 := (hb3.cell (p := ⟨w.heap.size, 0, none⟩) az2).trans b0
  have c1 := (hb3.cell (p := ⟨w.heap.size, 1, none⟩) az2).trans b1
  have az3 : w.heap.size < w3.heap.size := by have := hb3.size; omega
  obtain ⟨o1, p1, rfl⟩ := ownsRow_shape hr1
  have hr0' := hr0.below hb3
  have hap : ∀ g1, (Value.slice o1 L1.length p1).ownBlock = some g1 → (Value.slice o0 L0.length p0).ownBlock ≠ some g1 := by
    intro g1 h1 h2
    have := (World.ownsRow.lt hr1 g1 h1).1
    have := (World.ownsRow.lt hr0 g1 h2).2
    omega
  have hrA := hr0'.base (B' := w.heap.size) hw1.size
  have hrB := hr1
  have hz20 := hw2.size
  clear hr0 hr1 a0 a1 az b0 b1 az2 D0 D1 HM hb1 hb2 hb3 hw1 hw2 ht
  have W0 := isWhole_any L0 o0 p0 _ q w3 hrA
  have W1 := isWhole_any L1 o1 p1 _ q w3 hrB
  have HW0 : Hid (Calls Tryz.prog 142 #[.slice o0 L0.length p0, .int .i64 (q : Int)] w3 fun e w' => e = .returned (.bool (whN L0 q)) ∧ w' = w3) := W0
  have HW1 : Hid (Calls Tryz.prog 142 #[.slice o1 L1.length p1, .int .i64 (q : Int)] w3 fun e w' => e = .returned (.bool (whN L1 q)) ∧ w' = w3) := W1
  clear W0 W1
  have hcase : (whN L0 q = true ∧ whN L1 q = true) ∨ whN L0 q = false ∨ (whN L0 q = true ∧ whN L1 q = false) := by
    cases whN L0 q <;> cases whN L1 q <;> simp
  rcases hcase with ⟨y0, y1⟩ | y0 | ⟨y0, y1⟩
  · have hif : Hid (R = [(a, z)]) := by
      show _ = _
      rw [← HR.out, y0, y1]
      rfl
    rw [y0] at HW0
    rw [y1] at HW1
    clear y0 y1
    go_wp2_with fail
    refine HW0.out.mono ?_
    rintro e w' ⟨rfl, rfl⟩
    go_wp2_with fail
    refine HW1.out.mono ?_
    rintro e w'' ⟨rfl, rfl⟩
    go_wp2_with fail
    go_ret
    exact ⟨⟨_, rfl, by rw [hif.out]; exact BRow.one _ _ a z (by omega)⟩, hw3.alloc (by omega) _⟩
  · have hif : Hid (R = L0 ++ L1) := by
      show _ = _
      rw [← HR.out, y0]
      rfl
    clear HR
    rw [y0] at HW0
    clear y0
    go_wp2_with fail
    refine HW0.out.mono ?_
    rintro e w' ⟨rfl, rfl⟩
    go_wp2_with fail
    go_loopw [8, 55] (fun v i wr => ∃ j : Nat, i = .int .i64 j ∧ j ≤ L1.length ∧ BRow wr w.heap.size v (L0 ++ L1.take j) ∧ BRow wr w.heap.size (.slice o1 L1.length p1) L1 ∧ (∀ g1, (Value.slice o1 L1.length p1).ownBlock = some g1 → v.ownBlock ≠ some g1) ∧ Below w.heap.size w wr) (fun _ i _ => L1.length - (intOf i).toNat)
    case atStart => exact ⟨0, rfl, Nat.zero_le _, by simpa using hrA, hrB.base hz20, hap, by assumption⟩
    case round =>
      obtain ⟨j, rfl, hj, hrow, hup, hap2, hbel⟩ := hrel
      obtain ⟨ao2, cp2, rfl⟩ := ownsRow_shape hrow
      have hz := hbel.size
      have hll : (L0 ++ L1.take j).length ≤ 131072 := by rw [List.length_append, List.length_take]; omega
      by_cases hlt : j < L1.length
      · obtain ⟨g1, rfl, _, gz, hcell⟩ := hup.get (by omega)
        obtain ⟨d0, d1⟩ := hcell j hlt
        have htk : Hid (L0 ++ L1.take (j + 1) = (L0 ++ L1.take j) ++ [L1[j]]) := by
          show _ = _
          rw [List.take_add_one, List.getElem?_eq_getElem hlt, List.append_assoc]; rfl
        clear hcell
        generalize L1[j] = b at *
        obtain ⟨ba, bz⟩ := b
        simp only [] at d0 d1
        generalize L0 ++ L1.take j = LL at *
        go_wp2_with (at_builtin; refine wpList_append_lies _ rfl _ _ 176 rfl w.heap.size 192 i0 _ 2 16 Tryz.underlying176 hi hz0 hz1 hz2 rfl (by decide) _ _ _ rfl ((hrow.alloc _).alloc _) ⟨wr.heap.size + 1, 0, none⟩ 1 1 (nzC (ba, bz)) rfl rfl (cell_two_new _ _ _ _ _ (by simp)) (nzC_one _) (by decide) (by unfold maxLen; omega) (by omega) (by simp; omega) _ rfl ?_; intro g cp w4 hown hgrow hat hlt4)
        obtain ⟨hup4, hap4⟩ := BRow.still (n := LL.length + 1) (c := cp) ((hup.below (below_alloc _ _)).below (below_alloc _ _)) hap2 hgrow hat rfl
        go_roundw
        case rel => exact ⟨j + 1, by go_num, by omega, by rw [htk.out]; exact BRow.snoc hown, hup4, hap4, ((hbel.alloc hz _).alloc (by simp; omega) _).grown hgrow (by simp; omega) (fun k hk => (World.ownsRow.lt hrow k hk).1)⟩
        case measure => simp [intOf]; omega
      · obtain rfl : j = L1.length := by omega
        have hrow2 : BRow wr w.heap.size (.slice ao2 (L0 ++ L1.take L1.length).length cp2) (L0 ++ L1) := by rw [List.take_length] at hrow ⊢; exact hrow
        generalize (L0 ++ L1.take L1.length).length = nn at *
        clear hrow
        go_wp2_with fail
        go_ret
        exact ⟨⟨_, rfl, by rw [hif.out]; exact hrow2⟩, hbel⟩
  · have hif : Hid (R = L0 ++ L1) := by
      show _ = _
      rw [← HR.out, y0, y1]
      rfl
    clear HR
    rw [y0] at HW0
    rw [y1] at HW1
    clear y0 y1
    go_wp2_with fail
    refine HW0.out.mono ?_
    rintro e w' ⟨rfl, rfl⟩
    go_wp2_with fail
    refine HW1.out.mono ?_
    rintro e w' ⟨rfl, rfl⟩
    go_wp2_with fail
    go_loopw [8, 55] (fun v i wr => ∃ j : Nat, i = .int .i64 j ∧ j ≤ L1.length ∧ BRow wr w.heap.size v (L0 ++ L1.take j) ∧ BRow wr w.heap.size (.slice o1 L1.length p1) L1 ∧ (∀ g1, (Value.slice o1 L1.length p1).ownBlock = some g1 → v.ownBlock ≠ some g1) ∧ Below w.heap.size w wr) (fun _ i _ => L1.length - (intOf i).toNat)
    case atStart => exact ⟨0, rfl, Nat.zero_le _, by simpa using hrA, hrB.base hz20, hap, by assumption⟩
    case round =>
      obtain ⟨j, rfl, hj, hrow, hup, hap2, hbel⟩ := hrel
      obtain ⟨ao2, cp2, rfl⟩ := ownsRow_shape hrow
      have hz := hbel.size
      have hll : (L0 ++ L1.take j).length ≤ 131072 := by rw [List.length_append, List.length_take]; omega
      by_cases hlt : j < L1.length
      · obtain ⟨g1, rfl, _, gz, hcell⟩ := hup.get (by omega)
        obtain ⟨d0, d1⟩ := hcell j hlt
        have htk : Hid (L0 ++ L1.take (j + 1) = (L0 ++ L1.take j) ++ [L1[j]]) := by
          show _ = _
          rw [List.take_add_one, List.getElem?_eq_getElem hlt, List.append_assoc]; rfl
        clear hcell
        generalize L1[j] = b at *
        obtain ⟨ba, bz⟩ := b
        simp only [] at d0 d1
        generalize L0 ++ L1.take j = LL at *
        go_wp2_with (at_builtin; refine wpList_append_lies _ rfl _ _ 176 rfl w.heap.size 192 i0 _ 2 16 Tryz.underlying176 hi hz0 hz1 hz2 rfl (by decide) _ _ _ rfl ((hrow.alloc _).alloc _) ⟨wr.heap.size + 1, 0, none⟩ 1 1 (nzC (ba, bz)) rfl rfl (cell_two_new _ _ _ _ _ (by simp)) (nzC_one _) (by decide) (by unfold maxLen; omega) (by omega) (by simp; omega) _ rfl ?_; intro g cp w4 hown hgrow hat hlt4)
        obtain ⟨hup4, hap4⟩ := BRow.still (n := LL.length + 1) (c := cp) ((hup.below (below_alloc _ _)).below (below_alloc _ _)) hap2 hgrow hat rfl
        go_roundw
        case rel => exact ⟨j + 1, by go_num, by omega, by rw [htk.out]; exact BRow.snoc hown, hup4, hap4, ((hbel.alloc hz _).alloc (by simp; omega) _).grown hgrow (by simp; omega) (fun k hk => (World.ownsRow.lt hrow k hk).1)⟩
        case measure => simp [intOf]; omega
      · obtain rfl : j = L1.length := by omega
        have hrow2 : BRow wr w.heap.size (.slice ao2 (L0 ++ L1.take L1.length).length cp2) (L0 ++ L1) := by rw [List.take_length] at hrow ⊢; exact hrow
        generalize (L0 ++ L1.take L1.length).length = nn at *
        clear hrow
        go_wp2_with fail
        go_ret
        exact ⟨⟨_, rfl, by rw [hif.out]; exact hrow2⟩, hbel⟩
theorem cv_all : ∀ n, CvOK n := by
  intro n
  induction n with
  | zero =>
    intro ts ao cap k x W w h1 h2 h3 h4 h5 h6 h7
    refine cv_flat 0 ts ao cap k x W w h1 h2 h3 h4 h5 h6 h7 ?_
    unfold mdB; rfl
  | succ n ih =>
    intro ts ao cap k x W w h1 h2 h3 h4 h5 h6 h7
    cases hm : mdB k ts (x * 2 ^ (n + 1)) (2 ^ (n + 1))
    · exact cv_flat (n + 1) ts ao cap k x W w h1 h2 h3 h4 h5 h6 h7 hm
    · exact cv_half n ih ts ao cap k x W w h1 h2 h3 h4 h5 h6 h7 hm
end Go.Proofs.YtgkiknfpcbcnnaaGreat
