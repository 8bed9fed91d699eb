import Derived.Test.YtgkiknfpcbcnnabGreatGk
namespace Go.Proofs.YtgkiknfpcbcnnabGreat
open Go.RowKit
set_option maxRecDepth 20000

/-- Is it so of some number from lo on, of n? -/
def anyB (f : Nat → Bool) (lo : Nat) : Nat → Bool
  | 0 => false
  | n + 1 => anyB f lo n || f (lo + n)

theorem anyB_iff (f : Nat → Bool) (lo : Nat) : ∀ n, anyB f lo n = true ↔ ∃ v, lo ≤ v ∧ v < lo + n ∧ f v = true := by
  intro n
  induction n with
  | zero => simp only [anyB, Bool.false_eq_true, false_iff]; rintro ⟨v, h1, h2, _⟩; omega
  | succ n ih =>
    simp only [anyB, Bool.or_eq_true, ih]
    constructor
    · rintro (⟨v, h1, h2, h3⟩ | h)
      · exact ⟨v, h1, by omega, h3⟩
      · exact ⟨lo + n, by omega, by omega, h⟩
    · rintro ⟨v, h1, h2, h3⟩
      by_cases hv : v = lo + n
      · exact .inr (by rw [← hv]; exact h3)
      · exact .inl ⟨v, h1, by omega, h3⟩

theorem anyB_not {f : Nat → Bool} {lo n v : Nat} (h : anyB f lo n = false) (h1 : lo ≤ v) (h2 : v < lo + n) : f v = false := by
  cases hf : f v
  · rfl
  · have := (anyB_iff f lo n).2 ⟨v, h1, h2, hf⟩
    rw [h] at this; cases this

/-- The block of x with n free bits: does it hold of some number, does it not of some? -/
def yesB (f : Nat → Bool) (n x : Nat) : Bool := anyB f (x * 2 ^ n) (2 ^ n)
def noB (f : Nat → Bool) (n x : Nat) : Bool := anyB (fun v => !f v) (x * 2 ^ n) (2 ^ n)

/-- The cover, by halving what is mixed. -/
def covS (f : Nat → Bool) : Nat → List UInt8 → Nat → List (List UInt8)
  | 0, pre, x => if f x then [pre] else []
  | n + 1, pre, x => if yesB f (n + 1) x then (if noB f (n + 1) x then covS f n (pre ++ [48]) (2 * x) ++ covS f n (pre ++ [49]) (2 * x + 1) else [pre ++ List.replicate (n + 1) 42]) else []

theorem covS_pre (f : Nat → Bool) : ∀ (n : Nat) (pre : List UInt8) (x : Nat), ∀ b ∈ covS f n pre x, ∃ r, b = pre ++ r ∧ r.length = n := by
  intro n
  induction n with
  | zero =>
    intro pre x b hb
    simp only [covS] at hb
    split at hb
    · simp only [List.mem_singleton] at hb; exact ⟨[], by simp [hb], rfl⟩
    · simp at hb
  | succ n ih =>
    intro pre x b hb
    simp only [covS] at hb
    split at hb
    · split at hb
      · rw [List.mem_append] at hb
        rcases hb with hb | hb
        · obtain ⟨r, rfl, hr⟩ := ih _ _ b hb
          exact ⟨48 :: r, by simp, by simp [hr]⟩
        · obtain ⟨r, rfl, hr⟩ := ih _ _ b hb
          exact ⟨49 :: r, by simp, by simp [hr]⟩
      · simp only [List.mem_singleton] at hb
        exact ⟨_, hb, by simp⟩
    · simp at hb

/-- Does a text with stars fit a text? -/
def fitL : List UInt8 → List UInt8 → Bool
  | [], [] => true
  | a :: x, b :: y => (a == 42 || a == b) && fitL x y
  | _, _ => false

theorem fitL_self : ∀ x : List UInt8, fitL x x = true := by
  intro x
  induction x with
  | nil => rfl
  | cons a x ih => simp [fitL, ih]
theorem fitL_stars : ∀ x : List UInt8, fitL (List.replicate x.length 42) x = true := by
  intro x
  induction x with
  | nil => rfl
  | cons a x ih => simp [fitL, List.replicate_succ, ih]
theorem fitL_app : ∀ (x x' y y' : List UInt8), x.length = x'.length → fitL (x ++ y) (x' ++ y') = (fitL x x' && fitL y y') := by
  intro x
  induction x with
  | nil => intro x' y y' h; cases x' with
    | nil => simp [fitL]
    | cons a x' => simp at h
  | cons a x ih => intro x' y y' h; cases x' with
    | nil => simp at h
    | cons b x' => simp only [List.cons_append, fitL]; rw [ih x' y y' (by simpa using h), Bool.and_assoc]

theorem countP_none {p : List UInt8 → Bool} {l : List (List UInt8)} (h : ∀ b ∈ l, p b = false) : l.countP p = 0 := by
  rw [List.countP_eq_zero]
  intro b hb
  rw [h b hb]; simp

/-- Of the numbers of a block just one block of the cover fits each that is in the set, none another. -/
theorem covS_count (f : Nat → Bool) : ∀ (n : Nat) (pre : List UInt8) (x v : Nat), v / 2 ^ n = x → (covS f n pre x).countP (fun b => fitL b (pre ++ binL v n)) = if f v then 1 else 0 := by
  intro n
  induction n with
  | zero =>
    intro pre x v hv
    simp only [Nat.pow_zero, Nat.div_one] at hv
    subst hv
    simp only [covS, binL, List.append_nil]
    cases f v
    · simp
    · simp [fitL_self]
  | succ n ih =>
    intro pre x v hv
    have hp : 0 < 2 ^ (n + 1) := Nat.two_pow_pos _
    have hin : x * 2 ^ (n + 1) ≤ v ∧ v < x * 2 ^ (n + 1) + 2 ^ (n + 1) := by
      have d := Nat.div_add_mod v (2 ^ (n + 1))
      have m := Nat.mod_lt v hp
      rw [hv, Nat.mul_comm] at d
      omega
    simp only [covS]
    cases hy : yesB f (n + 1) x
    · have : f v = false := anyB_not hy hin.1 hin.2
      simp [this]
    · simp only [if_true]
      cases hn : noB f (n + 1) x
      · have : (!f v) = false := anyB_not (f := fun v => !f v) hn hin.1 hin.2
        have hf : f v = true := by simpa using this
        have hl : (binL v (n + 1)).length = n + 1 := binL_len v (n + 1)
        have hfit : fitL (pre ++ List.replicate (n + 1) 42) (pre ++ binL v (n + 1)) = true := by
          rw [fitL_app _ _ _ _ rfl, fitL_self, Bool.true_and]
          have := fitL_stars (binL v (n + 1))
          rw [hl] at this
          exact this
        simp [hf, hfit]
      · simp only [if_true, List.countP_append]
        have hq : v / 2 ^ n = 2 * x ∨ v / 2 ^ n = 2 * x + 1 := by
          have e : v / 2 ^ n / 2 = x := by rw [Nat.div_div_eq_div_mul, ← Nat.pow_succ]; exact hv
          omega
        have split : binL v (n + 1) = dgL (v / 2 ^ n) :: binL v n := rfl
        rcases hq with hq | hq
        · have hd : dgL (v / 2 ^ n) = 48 := by rw [hq]; unfold dgL; rw [if_neg (by omega)]
          rw [split, hd]
          have e1 : pre ++ 48 :: binL v n = (pre ++ [48]) ++ binL v n := by simp
          rw [e1, ih (pre ++ [48]) (2 * x) v hq, countP_none]
          · simp
          · intro b hb
            obtain ⟨r, rfl, hr⟩ := covS_pre f n _ _ b hb
            rw [fitL_app _ _ _ _ (by simp), fitL_app _ _ _ _ rfl]
            have : fitL [49] [48] = false := by decide
            rw [this]; simp
        · have hd : dgL (v / 2 ^ n) = 49 := by rw [hq]; unfold dgL; rw [if_pos (by omega)]
          rw [split, hd]
          have e1 : pre ++ 49 :: binL v n = (pre ++ [49]) ++ binL v n := by simp
          rw [e1, ih (pre ++ [49]) (2 * x + 1) v hq, countP_none]
          · simp
          · intro b hb
            obtain ⟨r, rfl, hr⟩ := covS_pre f n _ _ b hb
            rw [fitL_app _ _ _ _ (by simp), fitL_app _ _ _ _ rfl]
            have : fitL [48] [49] = false := by decide
            rw [this]; simp
end Go.Proofs.YtgkiknfpcbcnnabGreat

namespace Go.Proofs.YtgkiknfpcbcnnabGreat
open Go.RowKit
set_option maxRecDepth 20000

theorem gR_congr {k v v' : Int} : ∀ {ts : List Tm}, (∀ t ∈ ts, tmH k t v = tmH k t v') → gR k v ts = gR k v' ts := by
  intro ts
  induction ts with
  | nil => intro _; rfl
  | cons t r ih => intro h; simp only [gR]; rw [h t (by simp), ih (fun x hx => h x (by simp [hx]))]
theorem gH_congr {k v v' : Int} : ∀ {ts : List Tm}, (∀ t ∈ ts, tmH k t v = tmH k t v') → gH k v ts = gH k v' ts := by
  intro ts
  induction ts with
  | nil => intro _; rfl
  | cons t r ih => intro h; simp only [gH]; rw [h t (by simp), ih (fun x hx => h x (by simp [hx])), gR_congr (fun x hx => h x (by simp [hx]))]

theorem tH_step (op vl v : Int) (h1 : v + 1 ≠ vl) (h2 : v + 1 ≠ vl + 1) : tH op vl (v + 1) = tH op vl v := by
  unfold tH
  have a : decide (v + 1 < vl) = decide (v < vl) := decide_eq_decide.2 (by omega)
  have b : decide (vl < v + 1) = decide (vl < v) := decide_eq_decide.2 (by omega)
  have c : decide (v + 1 = vl) = decide (v = vl) := decide_eq_decide.2 (by omega)
  rw [a, b, c]

/-- Between two values of terms nothing changes. -/
def Stp (g : Int → Bool) (ts : List Tm) : Prop := ∀ v : Int, (∀ t ∈ ts, v + 1 ≠ t.vl ∧ v + 1 ≠ t.vl + 1) → g (v + 1) = g v

theorem gH_stp (k : Int) (hk : k ≠ 5) (ts : List Tm) : Stp (fun v => gH k v ts) ts := by
  intro v h
  refine gH_congr fun t ht => ?_
  unfold tmH
  rw [if_neg hk, if_neg hk]
  exact tH_step _ _ _ (h t ht).1 (h t ht).2
theorem Stp.not {g : Int → Bool} {ts : List Tm} (h : Stp g ts) : Stp (fun v => !g v) ts := fun v hv => by
  show (!g (v + 1)) = !g v
  rw [h v hv]

/-- The values at which something may change, one by one. -/
def pv (ts : List Tm) (i : Nat) : Int := ((ts[i / 2]?).map (·.vl)).getD 0 + ((i % 2 : Nat) : Int)
def ptB (g : Int → Bool) (lo hi v : Int) : Bool := decide (lo < v) && decide (v ≤ hi) && g v
def ptsB (g : Int → Bool) (lo hi : Int) (ts : List Tm) : Nat → Bool
  | 0 => false
  | i + 1 => ptsB g lo hi ts i || ptB g lo hi (pv ts i)

theorem ptsB_iff (g : Int → Bool) (lo hi : Int) (ts : List Tm) : ∀ n, ptsB g lo hi ts n = true ↔ ∃ i < n, ptB g lo hi (pv ts i) = true := by
  intro n
  induction n with
  | zero => simp [ptsB]
  | succ n ih =>
    simp only [ptsB, Bool.or_eq_true, ih]
    constructor
    · rintro (⟨i, h1, h2⟩ | h)
      · exact ⟨i, by omega, h2⟩
      · exact ⟨n, by omega, h⟩
    · rintro ⟨i, h1, h2⟩
      by_cases hi : i = n
      · subst hi; exact .inr h2
      · exact .inl ⟨i, by omega, h2⟩

theorem pv_even (ts : List Tm) (q : Nat) (h : q < ts.length) : pv ts (2 * q) = ts[q].vl := by
  unfold pv
  have e1 : 2 * q / 2 = q := by omega
  have e2 : 2 * q % 2 = 0 := by omega
  rw [e1, e2, List.getElem?_eq_getElem h]
  simp
theorem pv_odd (ts : List Tm) (q : Nat) (h : q < ts.length) : pv ts (2 * q + 1) = ts[q].vl + 1 := by
  unfold pv
  have e1 : (2 * q + 1) / 2 = q := by omega
  have e2 : (2 * q + 1) % 2 = 1 := by omega
  rw [e1, e2, List.getElem?_eq_getElem h]
  simp

theorem pts_reach {g : Int → Bool} {ts : List Tm} (hs : Stp g ts) (lo hi : Int) : ∀ n : Nat, lo + n ≤ hi → g (lo + n) = true → (g lo || ptsB g lo hi ts (2 * ts.length)) = true := by
  intro n
  induction n with
  | zero => intro _ h; simp at h; simp [h]
  | succ n ih =>
    intro hle h
    by_cases hp : ∀ t ∈ ts, (lo + n) + 1 ≠ t.vl ∧ (lo + n) + 1 ≠ t.vl + 1
    · have e := hs (lo + n) hp
      have e2 : lo + ((n + 1 : Nat) : Int) = lo + n + 1 := by omega
      rw [e2, e] at h
      exact ih (by omega) h
    · have hp' : ∃ t ∈ ts, (lo + n) + 1 = t.vl ∨ (lo + n) + 1 = t.vl + 1 := by
        apply Classical.byContradiction
        intro hc
        exact hp fun t ht => ⟨fun h1 => hc ⟨t, ht, .inl h1⟩, fun h1 => hc ⟨t, ht, .inr h1⟩⟩
      obtain ⟨t, ht, hv⟩ := hp'
      obtain ⟨q, hq, rfl⟩ := List.getElem_of_mem ht
      have e2 : lo + ((n + 1 : Nat) : Int) = lo + n + 1 := by omega
      rw [e2] at h hle
      have hpt : ptB g lo hi (lo + n + 1) = true := by
        unfold ptB
        rw [h]
        simp
        omega
      have : ptsB g lo hi ts (2 * ts.length) = true := by
        rw [ptsB_iff]
        rcases hv with hv | hv
        · exact ⟨2 * q, by omega, by rw [pv_even ts q hq, ← hv]; exact hpt⟩
        · exact ⟨2 * q + 1, by omega, by rw [pv_odd ts q hq, ← hv]; exact hpt⟩
      rw [this]; simp

theorem pts_all {g : Int → Bool} {ts : List Tm} (hs : Stp g ts) (lo hi : Nat) (h : lo ≤ hi) : (g lo || ptsB g lo hi ts (2 * ts.length)) = anyB (fun n => g n) lo (hi + 1 - lo) := by
  rw [Bool.eq_iff_iff, anyB_iff]
  constructor
  · intro hh
    rw [Bool.or_eq_true, ptsB_iff] at hh
    rcases hh with hh | ⟨i, _, hi2⟩
    · exact ⟨lo, by omega, by omega, hh⟩
    · unfold ptB at hi2
      simp only [Bool.and_eq_true, decide_eq_true_eq] at hi2
      obtain ⟨v, hv⟩ := Int.eq_ofNat_of_zero_le (a := pv ts i) (by omega)
      rw [hv] at hi2
      exact ⟨v, by omega, by omega, hi2.2⟩
  · rintro ⟨v, h1, h2, h3⟩
    have e : ((lo : Int) + ((v - lo : Nat) : Int)) = (v : Int) := by omega
    exact pts_reach hs lo hi (v - lo) (by omega) (by rw [e]; exact h3)

/-- Of flags: all numbers are looked at. -/
theorem pts_more {g : Int → Bool} {ts : List Tm} (lo hi : Nat) (h : lo ≤ hi) (n : Nat) : ((g lo || anyB (fun n => g n) lo (hi + 1 - lo)) || ptsB g lo hi ts n) = anyB (fun n => g n) lo (hi + 1 - lo) := by
  rw [Bool.eq_iff_iff, anyB_iff]
  constructor
  · intro hh
    rw [Bool.or_eq_true, Bool.or_eq_true, ptsB_iff, anyB_iff] at hh
    rcases hh with (hh | hh) | ⟨i, _, hi2⟩
    · exact ⟨lo, by omega, by omega, hh⟩
    · exact hh
    · unfold ptB at hi2
      simp only [Bool.and_eq_true, decide_eq_true_eq] at hi2
      obtain ⟨v, hv⟩ := Int.eq_ofNat_of_zero_le (a := pv ts i) (by omega)
      rw [hv] at hi2
      exact ⟨v, by omega, by omega, hi2.2⟩
  · intro hh
    rw [Bool.or_eq_true, Bool.or_eq_true, anyB_iff]
    exact .inl (.inr hh)
end Go.Proofs.YtgkiknfpcbcnnabGreat

namespace Go.Proofs.YtgkiknfpcbcnnabGreat
open Go.RowKit
set_option maxRecDepth 20000

end Go.Proofs.YtgkiknfpcbcnnabGreat
