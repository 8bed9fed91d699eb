import Derived.Test.YtkdcjcemeipkjaaMat8
import Derived.Test.YtkdcjcemeipkjaaMath2
namespace Go.Proofs.Ytkdcjcemeipkjaa
open Go.RowKit
set_option maxRecDepth 20000

def lowF (a b : Int) : Int := if a < b then -1 else if b < a then 1 else 0
/-- Bytes, up to the shorter one's end. -/
def cmpB : List UInt8 → List UInt8 → Int
  | a :: x, b :: y => if a = b then cmpB x y else lowF a.toNat b.toNat
  | _, _ => 0
def cov (b1 l1 b2 l2 : Int) : Bool := decide (l1 ≤ l2) && lies b2 b1 l1
def cmpPref (b1 l1 b2 l2 : Int) : Int := if cov b1 l1 b2 l2 || cov b2 l2 b1 l1 then lowF l2 l1 else lowF b1 b2
def cmpP (p q : Pt) : Int := if p.ty = q.ty then (if hasP p.ty then cmpPref p.bt p.ln q.bt q.ln else cmpB (bl (wPart p)) (bl (wPart q))) else lowF p.ty q.ty
def cmpPs : List Pt → List Pt → Int
  | [], [] => 0
  | [], _ :: _ => 1
  | _ :: _, [] => -1
  | p :: ps, q :: qs => if cmpP p q = 0 then cmpPs ps qs else cmpP p q

/-- The order of texts. -/
def cmpL (x y : List UInt8) : Int := if Op.bytesLess x y then -1 else if x = y then 0 else 1

theorem less_irrefl : ∀ x, Op.bytesLess x x = false := by
  intro x
  induction x with
  | nil => rfl
  | cons a x ih =>
    simp only [Op.bytesLess, ih, Bool.and_false, Bool.or_false, decide_eq_false_iff_not]
    exact UInt8.lt_irrefl a

theorem cmpL_cons (a b : UInt8) (x y : List UInt8) : cmpL (a :: x) (b :: y) = if a = b then cmpL x y else lowF a.toNat b.toNat := by
  unfold cmpL
  simp only [Op.bytesLess, List.cons.injEq]
  by_cases h : a = b
  · subst h
    have h0 : decide (a < a) = false := by rw [decide_eq_false_iff_not]; exact UInt8.lt_irrefl a
    simp
  · have hb : (a == b) = false := beq_eq_false_iff_ne.2 h
    rw [hb]
    simp only [Bool.false_and, Bool.or_false, decide_eq_true_eq, h, false_and, if_false]
    unfold lowF
    by_cases hl : a < b
    · have h1 : (a.toNat : Int) < b.toNat := by have := UInt8.lt_iff_toNat_lt.1 hl; omega
      rw [if_pos hl, if_pos h1]
    · have h1 : ¬ (a.toNat : Int) < b.toNat := fun hh => hl (UInt8.lt_iff_toNat_lt.2 (by omega))
      have h2 : (b.toNat : Int) < a.toNat := by
        have : a.toNat ≠ b.toNat := fun hh => h (UInt8.toNat_inj.1 hh)
        omega
      rw [if_neg hl, if_neg h1, if_pos h2]

theorem cmpL_app (z x y : List UInt8) : cmpL (z ++ x) (z ++ y) = cmpL x y := by
  induction z with
  | nil => rfl
  | cons a z ih => rw [List.cons_append, List.cons_append, cmpL_cons, if_pos rfl, ih]

theorem cmpL_self (x : List UInt8) : cmpL x x = 0 := by
  unfold cmpL; rw [less_irrefl]; simp

theorem lowF_ne {a b : Int} (h : a ≠ b) : lowF a b ≠ 0 := by unfold lowF; (repeat' split) <;> omega
theorem lowF_self (a : Int) : lowF a a = 0 := by unfold lowF; simp

/-- They part at some byte, and c tells how. -/
def Dif (u v : List UInt8) (c : Int) : Prop := ∃ z a b u' v', u = z ++ a :: u' ∧ v = z ++ b :: v' ∧ a ≠ b ∧ c = lowF a.toNat b.toNat

theorem Dif.cmp {u v : List UInt8} {c : Int} (h : Dif u v c) (x y : List UInt8) : cmpL (u ++ x) (v ++ y) = c := by
  obtain ⟨z, a, b, u', v', rfl, rfl, hab, rfl⟩ := h
  rw [List.append_assoc, List.append_assoc, cmpL_app, List.cons_append, List.cons_append, cmpL_cons, if_neg hab]
theorem Dif.ne {u v : List UInt8} {c : Int} (h : Dif u v c) : c ≠ 0 := by
  obtain ⟨z, a, b, u', v', rfl, rfl, hab, rfl⟩ := h
  exact lowF_ne fun hh => hab (UInt8.toNat_inj.1 (by omega))
theorem Dif.cons {u v : List UInt8} {c : Int} (a : UInt8) (h : Dif u v c) : Dif (a :: u) (a :: v) c := by
  obtain ⟨z, b, d, u', v', rfl, rfl, hab, rfl⟩ := h
  exact ⟨a :: z, b, d, u', v', rfl, rfl, hab, rfl⟩
theorem Dif.app {u v : List UInt8} {c : Int} (x y : List UInt8) (h : Dif u v c) : Dif (u ++ x) (v ++ y) c := by
  obtain ⟨z, b, d, u', v', rfl, rfl, hab, rfl⟩ := h
  exact ⟨z, b, d, u' ++ x, v' ++ y, by simp, by simp, hab, rfl⟩

/-- Bytes: they part, or one begins the other. -/
theorem cmpB_dif : ∀ (u v : List UInt8), Dif u v (cmpB u v) ∨ (cmpB u v = 0 ∧ (u <+: v ∨ v <+: u)) := by
  intro u
  induction u with
  | nil => intro v; exact .inr ⟨by cases v <;> rfl, .inl List.nil_prefix⟩
  | cons a u ih =>
    intro v
    cases v with
    | nil => exact .inr ⟨rfl, .inr List.nil_prefix⟩
    | cons b v =>
      by_cases h : a = b
      · subst h
        have e : cmpB (a :: u) (a :: v) = cmpB u v := by show (if a = a then _ else _) = _; rw [if_pos rfl]
        rw [e]
        rcases ih v with h | ⟨h1, h2⟩
        · exact .inl (h.cons a)
        · refine .inr ⟨h1, ?_⟩
          rcases h2 with h2 | h2
          · exact .inl (by rw [List.cons_prefix_cons]; exact ⟨rfl, h2⟩)
          · exact .inr (by rw [List.cons_prefix_cons]; exact ⟨rfl, h2⟩)
      · have e : cmpB (a :: u) (b :: v) = lowF a.toNat b.toNat := by show (if a = b then _ else _) = _; rw [if_neg h]
        rw [e]
        exact .inl ⟨[], a, b, u, v, rfl, rfl, h, rfl⟩

theorem part_inj {p q : Pt} (hp : isP p = true) (hq : isP q = true) (h : bl (wPart p) <+: bl (wPart q)) : p = q := by
  have a1 : At (wPart q) 0 (wPart p) := by unfold At; simpa using h
  have a2 : At (wPart q) 0 (wPart q) := by unfold At; simp
  have e1 := rdPart_complete (wPart q) 0 p hp a1
  have e2 := rdPart_complete (wPart q) 0 q hq a2
  rw [e1] at e2
  simp only [Option.some.injEq, Prod.mk.injEq] at e2
  exact e2.1

theorem binL_mod (n : Nat) : ∀ (m z : Nat), m ≤ n → binL z m = binL (z % 2 ^ n) m := by
  intro m z hm
  induction m with
  | zero => rfl
  | succ m ihm =>
    simp only [binL]
    rw [← ihm (by omega)]
    congr 1
    unfold dgL
    have hb : z / 2 ^ m % 2 = z % 2 ^ n / 2 ^ m % 2 := by
      have t1 : z.testBit m = decide (z / 2 ^ m % 2 = 1) := tb z m
      have t2 : (z % 2 ^ n).testBit m = decide (z % 2 ^ n / 2 ^ m % 2 = 1) := tb _ m
      rw [Nat.testBit_mod_two_pow] at t2
      have : decide (m < n) = true := by simp; omega
      rw [this, Bool.true_and, t1] at t2
      have l1 : z / 2 ^ m % 2 < 2 := Nat.mod_lt _ (by omega)
      have l2 : z % 2 ^ n / 2 ^ m % 2 < 2 := Nat.mod_lt _ (by omega)
      by_cases c1 : z / 2 ^ m % 2 = 1 <;> by_cases c2 : z % 2 ^ n / 2 ^ m % 2 = 1
      · omega
      · simp [c1, c2] at t2
      · simp [c1, c2] at t2
      · omega
    rw [hb]

/-- Numbers that differ: the lower one has a 0 where the other has a 1, behind bits that are the same. -/
theorem binL_lt : ∀ (n x y : Nat), x < y → y < 2 ^ n → ∃ z u v, binL x n = z ++ 48 :: u ∧ binL y n = z ++ 49 :: v := by
  intro n
  induction n with
  | zero => intro x y h1 h2; simp at h2; omega
  | succ n ih =>
    intro x y h1 h2
    have hp : 0 < 2 ^ n := Nat.two_pow_pos n
    have d1 := Nat.div_add_mod x (2 ^ n)
    have d2 := Nat.div_add_mod y (2 ^ n)
    have m1 := Nat.mod_lt x hp
    have m2 := Nat.mod_lt y hp
    rw [Nat.pow_succ] at h2
    have qx : x / 2 ^ n < 2 := (Nat.div_lt_iff_lt_mul hp).2 (by rw [Nat.mul_comm]; omega)
    have qy : y / 2 ^ n < 2 := (Nat.div_lt_iff_lt_mul hp).2 (by rw [Nat.mul_comm]; exact h2)
    simp only [binL]
    rw [binL_mod n n x (Nat.le_refl _), binL_mod n n y (Nat.le_refl _)]
    generalize x / 2 ^ n = q1 at *
    generalize y / 2 ^ n = q2 at *
    generalize x % 2 ^ n = r1 at *
    generalize y % 2 ^ n = r2 at *
    generalize 2 ^ n = N at *
    have hq : q1 ≤ q2 := by
      rcases Nat.lt_or_ge q2 q1 with h | h
      · exfalso
        have : q1 = 1 := by omega
        have : q2 = 0 := by omega
        subst q1; subst q2
        omega
      · exact h
    by_cases he : q1 = q2
    · subst he
      obtain ⟨z, u, v, e1, e2⟩ := ih r1 r2 (by omega) m2
      exact ⟨dgL q1 :: z, u, v, by rw [e1]; rfl, by rw [e2]; rfl⟩
    · have h1' : q1 = 0 := by omega
      have h2' : q2 = 1 := by omega
      subst h1' h2'
      exact ⟨[], binL r1 n, binL r2 n, rfl, rfl⟩
end Go.Proofs.Ytkdcjcemeipkjaa
