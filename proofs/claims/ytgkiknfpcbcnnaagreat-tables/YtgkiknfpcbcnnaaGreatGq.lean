import Derived.Test.YtgkiknfpcbcnnaaGreatGk
import Derived.Test.YtgkiknfpcbcnnaaGreatGc
namespace Go.Proofs.YtgkiknfpcbcnnaaGreat
open Go.RowKit
set_option maxRecDepth 20000
def lowF (a b : Int) : Int := if a < b then -1 else if b < a then 1 else 0
def cmpB : List UInt8 → List UInt8 → Int
  | a :: x, b :: y => if a = b then cmpB x y else lowF a.toNat b.toNat
  | _, _ => 0
def cov (b1 l1 b2 l2 : Int) : Bool := decide (l1 ≤ l2) && lies b2 b1 l1
def cmpPref (b1 l1 b2 l2 : Int) : Int := if cov b1 l1 b2 l2 || cov b2 l2 b1 l1 then lowF l2 l1 else lowF b1 b2
def cmpP (p q : Pt) : Int := if p.ty = q.ty then (if hasP p.ty then cmpPref p.bt p.ln q.bt q.ln else cmpB (bl (wPart p)) (bl (wPart q))) else lowF p.ty q.ty
def cmpPs : List Pt → List Pt → Int
  | [], [] => 0
  | [], _ :: _ => 1
  | _ :: _, [] => -1
  | p :: ps, q :: qs => if cmpP p q = 0 then cmpPs ps qs else cmpP p q
def cmpL (x y : List UInt8) : Int := if Op.bytesLess x y then -1 else if x = y then 0 else 1
theorem less_irrefl : ∀ x, Op.bytesLess x x = false := by
  intro x
  induction x with
  | nil => rfl
  | cons a x ih =>
    simp only [Op.bytesLess, ih, Bool.and_false, Bool.or_false, decide_eq_false_iff_not]
    exact UInt8.lt_irrefl a
theorem cmpL_cons (a b : UInt8) (x y : List UInt8) : cmpL (a :: x) (b :: y) = if a = b then cmpL x y else lowF a.toNat b.toNat := by
  unfold cmpL
  simp only [Op.bytesLess, List.cons.injEq]
  by_cases h : a = b
  · subst h
    have h0 : decide (a < a) = false := by rw [decide_eq_false_iff_not]; exact UInt8.lt_irrefl a
    simp
  · have hb : (a == b) = false := beq_eq_false_iff_ne.2 h
    rw [hb]
    simp only [Bool.false_and, Bool.or_false, decide_eq_true_eq, h, false_and, if_false]
    unfold lowF
    by_cases hl : a < b
    · have h1 : (a.toNat : Int) < b.toNat := by have := UInt8.lt_iff_toNat_lt.1 hl; omega
      rw [if_pos hl, if_pos h1]
    · have h1 : ¬ (a.toNat : Int) < b.toNat := fun hh => hl (UInt8.lt_iff_toNat_lt.2 (by omega))
      have h2 : (b.toNat : Int) < a.toNat := by
        have : a.toNat ≠ b.toNat := fun hh => h (UInt8.toNat_inj.1 hh)
        omega
      rw [if_neg hl, if_neg h1, if_pos h2]
theorem cmpL_app (z x y : List UInt8) : cmpL (z ++ x) (z ++ y) = cmpL x y := by
  induction z with
  | nil => rfl
  | cons a z ih => rw [List.cons_append, List.cons_append, cmpL_cons, if_pos rfl, ih]
theorem cmpL_self (x : List UInt8) : cmpL x x = 0 := by
  unfold cmpL; rw [less_irrefl]; simp
theorem lowF_ne {a b : Int} (h : a ≠ b) : lowF a b ≠ 0 := by unfold lowF; (repeat' split) <;> omega
theorem lowF_self (a : Int) : lowF a a = 0 := by unfold lowF; simp
def Dif (u v : List UInt8) (c : Int) : Prop := ∃ z a b u' v', u = z ++ a :: u' ∧ v = z ++ b :: v' ∧ a ≠ b ∧ c = lowF a.toNat b.toNat
theorem Dif.cmp {u v : List UInt8} {c : Int} (h : Dif u v c) (x y : List UInt8) : cmpL (u ++ x) (v ++ y) = c := by
  obtain ⟨z, a, b, u', v', rfl, rfl, hab, rfl⟩ := h
  rw [List.append_assoc, List.append_assoc, cmpL_app, List.cons_append, List.cons_append, cmpL_cons, if_neg hab]
theorem Dif.ne {u v : List UInt8} {c : Int} (h : Dif u v c) : c ≠ 0 := by
  obtain ⟨z, a, b, u', v', rfl, rfl, hab, rfl⟩ := h
  exact lowF_ne fun hh => hab (UInt8.toNat_inj.1 (by omega))
theorem Dif.cons {u v : List UInt8} {c : Int} (a : UInt8) (h : Dif u v c) : Dif (a :: u) (a :: v) c := by
  obtain ⟨z, b, d, u', v', rfl, rfl, hab, rfl⟩ := h
  exact ⟨a :: z, b, d, u', v', rfl, rfl, hab, rfl⟩
theorem cmpB_dif : ∀ (u v : List UInt8), Dif u v (cmpB u v) ∨ (cmpB u v = 0 ∧ (u <+: v ∨ v <+: u)) := by
  intro u
  induction u with
  | nil => intro v; exact .inr ⟨by cases v <;> rfl, .inl List.nil_prefix⟩
  | cons a u ih =>
    intro v
    cases v with
    | nil => exact .inr ⟨rfl, .inr List.nil_prefix⟩
    | cons b v =>
      by_cases h : a = b
      · subst h
        have e : cmpB (a :: u) (a :: v) = cmpB u v := by show (if a = a then _ else _) = _; rw [if_pos rfl]
        rw [e]
        rcases ih v with h | ⟨h1, h2⟩
        · exact .inl (h.cons a)
        · refine .inr ⟨h1, ?_⟩
          rcases h2 with h2 | h2
          · exact .inl (by rw [List.cons_prefix_cons]; exact ⟨rfl, h2⟩)
          · exact .inr (by rw [List.cons_prefix_cons]; exact ⟨rfl, h2⟩)
      · have e : cmpB (a :: u) (b :: v) = lowF a.toNat b.toNat := by show (if a = b then _ else _) = _; rw [if_neg h]
        rw [e]
        exact .inl ⟨[], a, b, u, v, rfl, rfl, h, rfl⟩
theorem part_inj {p q : Pt} (hp : isP p = true) (hq : isP q = true) (h : bl (wPart p) <+: bl (wPart q)) : p = q := by
  have a1 : At (wPart q) 0 (wPart p) := by unfold At; simpa using h
  have a2 : At (wPart q) 0 (wPart q) := by unfold At; simp
  have e1 := rdPart_complete (wPart q) 0 p hp a1
  have e2 := rdPart_complete (wPart q) 0 q hq a2
  rw [e1] at e2
  simp only [Option.some.injEq, Prod.mk.injEq] at e2
  exact e2.1
theorem binL_mod (n : Nat) : ∀ (m z : Nat), m ≤ n → binL z m = binL (z % 2 ^ n) m := by
  intro m z hm
  induction m with
  | zero => rfl
  | succ m ihm =>
    simp only [binL]
    rw [← ihm (by omega)]
    congr 1
    unfold dgL
    have hb : z / 2 ^ m % 2 = z % 2 ^ n / 2 ^ m % 2 := by
      have t1 : z.testBit m = decide (z / 2 ^ m % 2 = 1) := tb z m
      have t2 : (z % 2 ^ n).testBit m = decide (z % 2 ^ n / 2 ^ m % 2 = 1) := tb _ m
      rw [Nat.testBit_mod_two_pow] at t2
      have : decide (m < n) = true := by simp; omega
      rw [this, Bool.true_and, t1] at t2
      have l1 : z / 2 ^ m % 2 < 2 := Nat.mod_lt _ (by omega)
      have l2 : z % 2 ^ n / 2 ^ m % 2 < 2 := Nat.mod_lt _ (by omega)
      by_cases c1 : z / 2 ^ m % 2 = 1 <;> by_cases c2 : z % 2 ^ n / 2 ^ m % 2 = 1
      · omega
      · simp [c1, c2] at t2
      · simp [c1, c2] at t2
      · omega
    rw [hb]
theorem binL_lt : ∀ (n x y : Nat), x < y → y < 2 ^ n → ∃ z u v, binL x n = z ++ 48 :: u ∧ binL y n = z ++ 49 :: v := by
  intro n
  induction n with
  | zero => intro x y h1 h2; simp at h2; omega
  | succ n ih =>
    intro x y h1 h2
    have hp : 0 < 2 ^ n := Nat.two_pow_pos n
    have d1 := Nat.div_add_mod x (2 ^ n)
    have d2 := Nat.div_add_mod y (2 ^ n)
    have m1 := Nat.mod_lt x hp
    have m2 := Nat.mod_lt y hp
    rw [Nat.pow_succ] at h2
    have qx : x / 2 ^ n < 2 := (Nat.div_lt_iff_lt_mul hp).2 (by rw [Nat.mul_comm]; omega)
    have qy : y / 2 ^ n < 2 := (Nat.div_lt_iff_lt_mul hp).2 (by rw [Nat.mul_comm]; exact h2)
    simp only [binL]
    rw [binL_mod n n x (Nat.le_refl _), binL_mod n n y (Nat.le_refl _)]
    generalize x / 2 ^ n = q1 at *
    generalize y / 2 ^ n = q2 at *
    generalize x % 2 ^ n = r1 at *
    generalize y % 2 ^ n = r2 at *
    generalize 2 ^ n = N at *
    have hq : q1 ≤ q2 := by
      rcases Nat.lt_or_ge q2 q1 with h | h
      · exfalso
        have : q1 = 1 := by omega
        have : q2 = 0 := by omega
        subst q1; subst q2
        omega
      · exact h
    by_cases he : q1 = q2
    · subst he
      obtain ⟨z, u, v, e1, e2⟩ := ih r1 r2 (by omega) m2
      exact ⟨dgL q1 :: z, u, v, by rw [e1]; rfl, by rw [e2]; rfl⟩
    · have h1' : q1 = 0 := by omega
      have h2' : q2 = 1 := by omega
      subst h1' h2'
      exact ⟨[], binL r1 n, binL r2 n, rfl, rfl⟩
end Go.Proofs.YtgkiknfpcbcnnaaGreat
namespace Go.Proofs.YtgkiknfpcbcnnaaGreat
open Go.RowKit
set_option maxRecDepth 20000
theorem binL_digit (v : Nat) : ∀ n, ∀ d ∈ binL v n, d = 48 ∨ d = 49 := by
  intro n
  induction n with
  | zero => intro d hd; simp [binL] at hd
  | succ n ih =>
    intro d hd
    simp only [binL, List.mem_cons] at hd
    rcases hd with rfl | hd
    · unfold dgL; split
      · exact .inr rfl
      · exact .inl rfl
    · exact ih d hd
theorem shr_shr (b l m : Nat) (h1 : m ≤ l) (h2 : l ≤ 16) : b / 2 ^ (16 - l) / 2 ^ (l - m) = b / 2 ^ (16 - m) := by
  rw [Nat.div_div_eq_div_mul, ← Nat.pow_add]
  congr 2
  omega
theorem key_split (b l m : Nat) (h1 : m ≤ l) (h2 : l ≤ 16) : binL (b / 2 ^ (16 - l)) l = binL (b / 2 ^ (16 - m)) m ++ (binL (b / 2 ^ (16 - l)) l).drop m := by
  have e := binL_take (b / 2 ^ (16 - l)) l m h1
  rw [shr_shr b l m h1 h2] at e
  rw [← e, List.take_append_drop]
def prefKey (b l : Nat) : List UInt8 := binL (b / 2 ^ (16 - l)) l ++ [50]
theorem key_longer (b1 l1 b2 l2 : Nat) (h : l1 < l2) (h2 : l2 ≤ 16) (he : b2 / 2 ^ (16 - l1) = b1 / 2 ^ (16 - l1)) : Dif (prefKey b1 l1) (prefKey b2 l2) 1 ∧ Dif (prefKey b2 l2) (prefKey b1 l1) (-1) := by
  unfold prefKey
  have e := key_split b2 l2 l1 (by omega) h2
  rw [he] at e
  have hlen : ((binL (b2 / 2 ^ (16 - l2)) l2).drop l1).length = l2 - l1 := by rw [List.length_drop, binL_len]
  cases hd : (binL (b2 / 2 ^ (16 - l2)) l2).drop l1 with
  | nil => rw [hd] at hlen; simp at hlen; omega
  | cons d r =>
    rw [hd] at e
    have hm : d ∈ binL (b2 / 2 ^ (16 - l2)) l2 := by rw [e]; simp
    rw [e]
    generalize binL (b1 / 2 ^ (16 - l1)) l1 = z
    have hdd := binL_digit _ _ d hm
    constructor
    · exact ⟨z, 50, d, [], r ++ [50], rfl, by simp, by rcases hdd with rfl | rfl <;> decide, by rcases hdd with rfl | rfl <;> rfl⟩
    · exact ⟨z, d, 50, r ++ [50], [], by simp, rfl, by rcases hdd with rfl | rfl <;> decide, by rcases hdd with rfl | rfl <;> rfl⟩
theorem key_lower (b1 l1 b2 l2 m : Nat) (m1 : m ≤ l1) (m2 : m ≤ l2) (h1 : l1 ≤ 16) (h2 : l2 ≤ 16) (v2 : b2 ≤ 65535) (h : b1 / 2 ^ (16 - m) < b2 / 2 ^ (16 - m)) : Dif (prefKey b1 l1) (prefKey b2 l2) (-1) ∧ Dif (prefKey b2 l2) (prefKey b1 l1) 1 ∧ b1 < b2 := by
  obtain ⟨z, u, v, e1, e2⟩ := binL_lt m _ _ h (shr_lt b2 m (by omega) v2)
  have k1 := key_split b1 l1 m m1 h1
  have k2 := key_split b2 l2 m m2 h2
  rw [e1] at k1
  rw [e2] at k2
  refine ⟨?_, ?_, ?_⟩
  · unfold prefKey
    rw [k1, k2]
    exact ⟨z, 48, 49, u ++ (binL (b1 / 2 ^ (16 - l1)) l1).drop m ++ [50], v ++ (binL (b2 / 2 ^ (16 - l2)) l2).drop m ++ [50], by simp, by simp, by decide, rfl⟩
  · unfold prefKey
    rw [k1, k2]
    exact ⟨z, 49, 48, v ++ (binL (b2 / 2 ^ (16 - l2)) l2).drop m ++ [50], u ++ (binL (b1 / 2 ^ (16 - l1)) l1).drop m ++ [50], by simp, by simp, by decide, rfl⟩
  · rcases Nat.lt_or_ge b1 b2 with h' | h'
    · exact h'
    · have := Nat.div_le_div_right (c := 2 ^ (16 - m)) h'
      omega
theorem lies_nat (v b l : Nat) (h : l ≤ 16) : lies v b l = decide (v / 2 ^ (16 - l) = b / 2 ^ (16 - l)) := by
  unfold lies
  have ek : ((16 : Int) - (l : Int)).toNat = 16 - l := by omega
  rw [ek]
  have e0 : (2 : Int) ^ (16 - l) = ((2 ^ (16 - l) : Nat) : Int) := by simp
  rw [e0, ← Int.natCast_ediv, ← Int.natCast_ediv]
  have e1 : (((v / 2 ^ (16 - l) : Nat) : Int) = ((b / 2 ^ (16 - l) : Nat) : Int)) = (v / 2 ^ (16 - l) = b / 2 ^ (16 - l)) := propext Int.ofNat_inj
  simp only [e1]
theorem cov_nat (b1 l1 b2 l2 : Nat) (h : l1 ≤ 16) : cov b1 l1 b2 l2 = (decide (l1 ≤ l2) && decide (b2 / 2 ^ (16 - l1) = b1 / 2 ^ (16 - l1))) := by
  unfold cov
  rw [lies_nat b2 b1 l1 h]
  congr 1
  exact decide_eq_decide.2 (by omega)
theorem same_bits (b1 b2 l : Nat) (he : b2 / 2 ^ (16 - l) = b1 / 2 ^ (16 - l)) (z1 : b1 % 2 ^ (16 - l) = 0) (z2 : b2 % 2 ^ (16 - l) = 0) : b1 = b2 := by
  have d1 := Nat.div_add_mod b1 (2 ^ (16 - l))
  have d2 := Nat.div_add_mod b2 (2 ^ (16 - l))
  rw [he, z2] at d2
  rw [z1] at d1
  omega
theorem pref_cmp (b1 l1 b2 l2 : Nat) (h1 : l1 ≤ 16) (h2 : l2 ≤ 16) (v1 : b1 ≤ 65535) (v2 : b2 ≤ 65535) (z1 : b1 % 2 ^ (16 - l1) = 0) (z2 : b2 % 2 ^ (16 - l2) = 0) :
    (cmpPref b1 l1 b2 l2 = 0 ∧ b1 = b2 ∧ l1 = l2) ∨ Dif (prefKey b1 l1) (prefKey b2 l2) (cmpPref b1 l1 b2 l2) := by
  unfold cmpPref
  rw [cov_nat b1 l1 b2 l2 h1, cov_nat b2 l2 b1 l1 h2]
  by_cases c12 : l1 ≤ l2 ∧ b2 / 2 ^ (16 - l1) = b1 / 2 ^ (16 - l1)
  · rw [if_pos (by simp [c12.1, c12.2])]
    by_cases hl : l1 = l2
    · subst hl
      exact .inl ⟨lowF_self _, same_bits b1 b2 l1 c12.2 z1 z2, rfl⟩
    · have e : lowF (l2 : Int) (l1 : Int) = 1 := by unfold lowF; rw [if_neg (by omega), if_pos (by omega)]
      rw [e]
      exact .inr (key_longer b1 l1 b2 l2 (by omega) h2 c12.2).1
  · by_cases c21 : l2 ≤ l1 ∧ b1 / 2 ^ (16 - l2) = b2 / 2 ^ (16 - l2)
    · rw [if_pos (by simp [c21.1, c21.2])]
      by_cases hl : l1 = l2
      · subst hl
        exact absurd ⟨Nat.le_refl _, c21.2.symm⟩ c12
      · have e : lowF (l2 : Int) (l1 : Int) = -1 := by unfold lowF; rw [if_pos (by omega)]
        rw [e]
        exact .inr (key_longer b2 l2 b1 l1 (by omega) h1 c21.2).2
    · have hn : (decide (l1 ≤ l2) && decide (b2 / 2 ^ (16 - l1) = b1 / 2 ^ (16 - l1)) || decide (l2 ≤ l1) && decide (b1 / 2 ^ (16 - l2) = b2 / 2 ^ (16 - l2))) = false := by
        have n1 : (decide (l1 ≤ l2) && decide (b2 / 2 ^ (16 - l1) = b1 / 2 ^ (16 - l1))) = false := by
          cases hx : (decide (l1 ≤ l2) && decide (b2 / 2 ^ (16 - l1) = b1 / 2 ^ (16 - l1)))
          · rfl
          · simp only [Bool.and_eq_true, decide_eq_true_eq] at hx; exact absurd hx c12
        have n2 : (decide (l2 ≤ l1) && decide (b1 / 2 ^ (16 - l2) = b2 / 2 ^ (16 - l2))) = false := by
          cases hx : (decide (l2 ≤ l1) && decide (b1 / 2 ^ (16 - l2) = b2 / 2 ^ (16 - l2)))
          · rfl
          · simp only [Bool.and_eq_true, decide_eq_true_eq] at hx; exact absurd hx c21
        rw [n1, n2]; rfl
      rw [hn]
      simp only [Bool.false_eq_true, if_false]
      right
      have key : ∃ m, m ≤ l1 ∧ m ≤ l2 ∧ b1 / 2 ^ (16 - m) ≠ b2 / 2 ^ (16 - m) := by
        rcases Nat.le_total l1 l2 with h | h
        · exact ⟨l1, Nat.le_refl _, h, fun hh => c12 ⟨h, hh.symm⟩⟩
        · exact ⟨l2, h, Nat.le_refl _, fun hh => c21 ⟨h, hh⟩⟩
      obtain ⟨m, m1, m2, hne⟩ := key
      rcases Nat.lt_or_gt_of_ne hne with hlt | hlt
      · obtain ⟨k1, _, k3⟩ := key_lower b1 l1 b2 l2 m m1 m2 h1 h2 v2 hlt
        have e : lowF (b1 : Int) (b2 : Int) = -1 := by unfold lowF; rw [if_pos (by omega)]
        rw [e]; exact k1
      · obtain ⟨_, k2, k3⟩ := key_lower b2 l2 b1 l1 m m2 m1 h2 h1 v1 hlt
        have e : lowF (b1 : Int) (b2 : Int) = 1 := by unfold lowF; rw [if_neg (by omega), if_pos (by omega)]
        rw [e]; exact k2
def keyL (p : Pt) : List UInt8 := if hasP p.ty then UInt8.ofNat p.ty.toNat :: prefKey p.bt.toNat p.ln.toNat else bl (wPart p)
def keyR (ps : List Pt) : List UInt8 := ps.flatMap keyL ++ [255]
theorem keyL_head (p : Pt) : ∃ r, keyL p = UInt8.ofNat p.ty.toNat :: r := by
  unfold keyL
  split
  · exact ⟨_, rfl⟩
  · rename_i h
    refine ⟨bl (wTerms p.ts), ?_⟩
    unfold wPart
    rw [if_neg h, bl_app, bl_ch]
    rfl
theorem ty_byte {k : Int} (h0 : 1 ≤ k) (h1 : k ≤ 5) : ((UInt8.ofNat k.toNat).toNat : Int) = k := by
  rw [UInt8.toNat_ofNat']
  omega
theorem Pt.ext4 {p q : Pt} (h1 : p.ty = q.ty) (h2 : p.bt = q.bt) (h3 : p.ln = q.ln) (h4 : p.ts = q.ts) : p = q := by
  cases p; cases q; simp only at h1 h2 h3 h4; subst h1 h2 h3 h4; rfl
theorem part_cmp {p q : Pt} (hp : isP p = true) (hq : isP q = true) : (cmpP p q = 0 ∧ p = q) ∨ Dif (keyL p) (keyL q) (cmpP p q) := by
  unfold cmpP
  by_cases ht : p.ty = q.ty
  · rw [if_pos ht]
    cases hk : hasP p.ty
    · simp only [Bool.false_eq_true, if_false]
      have hk2 : hasP q.ty = false := by rw [← ht]; exact hk
      have e1 : keyL p = bl (wPart p) := by unfold keyL; rw [hk]; rfl
      have e2 : keyL q = bl (wPart q) := by unfold keyL; rw [hk2]; rfl
      rw [e1, e2]
      rcases cmpB_dif (bl (wPart p)) (bl (wPart q)) with h | ⟨h1, h2⟩
      · exact .inr h
      · refine .inl ⟨h1, ?_⟩
        rcases h2 with h2 | h2
        · exact part_inj hp hq h2
        · exact (part_inj hq hp h2).symm
    · simp only [if_true]
      have hk2 : hasP q.ty = true := by rw [← ht]; exact hk
      have e1 : keyL p = UInt8.ofNat p.ty.toNat :: prefKey p.bt.toNat p.ln.toNat := by unfold keyL; rw [hk]; rfl
      have e2 : keyL q = UInt8.ofNat q.ty.toNat :: prefKey q.bt.toNat q.ln.toNat := by unfold keyL; rw [hk2]; rfl
      obtain ⟨t1, o1⟩ := isP_pref hp hk
      obtain ⟨t2, o2⟩ := isP_pref hq hk2
      obtain ⟨a1, a2, a3, a4, a5⟩ := prefOK_bd o1
      obtain ⟨b1, b2, b3, b4, b5⟩ := prefOK_bd o2
      rw [e1, e2, ht]
      obtain ⟨x1, hx1⟩ := Int.eq_ofNat_of_zero_le a3
      obtain ⟨y1, hy1⟩ := Int.eq_ofNat_of_zero_le a1
      obtain ⟨x2, hx2⟩ := Int.eq_ofNat_of_zero_le b3
      obtain ⟨y2, hy2⟩ := Int.eq_ofNat_of_zero_le b1
      rw [hx1] at a3 a4 a5 ⊢
      rw [hy1] at a1 a2 a5 ⊢
      rw [hx2] at b3 b4 b5 ⊢
      rw [hy2] at b1 b2 b5 ⊢
      simp only [Int.toNat_natCast]
      have z1 : x1 % 2 ^ (16 - y1) = 0 := by
        have ek : ((16 : Int) - (y1 : Int)).toNat = 16 - y1 := by omega
        rw [ek] at a5
        have e0 : (2 : Int) ^ (16 - y1) = ((2 ^ (16 - y1) : Nat) : Int) := by simp
        rw [e0] at a5
        omega
      have z2 : x2 % 2 ^ (16 - y2) = 0 := by
        have ek : ((16 : Int) - (y2 : Int)).toNat = 16 - y2 := by omega
        rw [ek] at b5
        have e0 : (2 : Int) ^ (16 - y2) = ((2 ^ (16 - y2) : Nat) : Int) := by simp
        rw [e0] at b5
        omega
      rcases pref_cmp x1 y1 x2 y2 (by omega) (by omega) (by omega) (by omega) z1 z2 with ⟨h1, h2, h3⟩ | h
      · exact .inl ⟨h1, Pt.ext4 ht (by rw [hx1, hx2, h2]) (by rw [hy1, hy2, h3]) (by rw [t1, t2])⟩
      · exact .inr (h.cons _)
  · rw [if_neg ht]
    right
    obtain ⟨r1, e1⟩ := keyL_head p
    obtain ⟨r2, e2⟩ := keyL_head q
    obtain ⟨p0, p1⟩ := isP_ty hp
    obtain ⟨q0, q1⟩ := isP_ty hq
    rw [e1, e2]
    refine ⟨[], _, _, r1, r2, rfl, rfl, ?_, ?_⟩
    · intro hh
      have := congrArg (fun x : UInt8 => (x.toNat : Int)) hh
      simp only [ty_byte p0 p1, ty_byte q0 q1] at this
      exact ht this
    · rw [ty_byte p0 p1, ty_byte q0 q1]
theorem parts_cmp : ∀ (ps qs : List Pt), (∀ p ∈ ps, isP p = true) → (∀ q ∈ qs, isP q = true) → cmpPs ps qs = cmpL (keyR ps) (keyR qs) ∧ (cmpPs ps qs = 0 → ps = qs) := by
  intro ps
  induction ps with
  | nil =>
    intro qs _ hq
    cases qs with
    | nil => exact ⟨by show (0 : Int) = cmpL [255] [255]; rw [cmpL_self], fun _ => rfl⟩
    | cons q qs =>
      obtain ⟨r, e⟩ := keyL_head q
      obtain ⟨q0, q1⟩ := isP_ty (hq q (by simp))
      have hb := ty_byte q0 q1
      refine ⟨?_, fun h => by cases h⟩
      show (1 : Int) = cmpL [255] ((keyL q ++ qs.flatMap keyL) ++ [255])
      rw [e, List.cons_append, List.cons_append, cmpL_cons]
      generalize UInt8.ofNat q.ty.toNat = b at hb
      have hne : ¬ (255 : UInt8) = b := fun hh => by subst hh; simp at hb; omega
      rw [if_neg hne]
      unfold lowF
      have h255 : ((255 : UInt8).toNat : Int) = 255 := rfl
      rw [h255, if_neg (by omega), if_pos (by omega)]
  | cons p ps ih =>
    intro qs hp hq
    cases qs with
    | nil =>
      obtain ⟨r, e⟩ := keyL_head p
      obtain ⟨q0, q1⟩ := isP_ty (hp p (by simp))
      have hb := ty_byte q0 q1
      refine ⟨?_, fun h => by cases h⟩
      show (-1 : Int) = cmpL ((keyL p ++ ps.flatMap keyL) ++ [255]) [255]
      rw [e, List.cons_append, List.cons_append, cmpL_cons]
      generalize UInt8.ofNat p.ty.toNat = b at hb
      have hne : ¬ b = (255 : UInt8) := fun hh => by subst hh; simp at hb; omega
      rw [if_neg hne]
      unfold lowF
      have h255 : ((255 : UInt8).toNat : Int) = 255 := rfl
      rw [h255, if_pos (by omega)]
    | cons q qs =>
      have h1 := ih qs (fun x hx => hp x (by simp [hx])) (fun x hx => hq x (by simp [hx]))
      have e1 : keyR (p :: ps) = keyL p ++ keyR ps := by unfold keyR; simp
      have e2 : keyR (q :: qs) = keyL q ++ keyR qs := by unfold keyR; simp
      rw [e1, e2]
      show (if cmpP p q = 0 then cmpPs ps qs else cmpP p q) = _ ∧ ((if cmpP p q = 0 then cmpPs ps qs else cmpP p q) = 0 → _)
      rcases part_cmp (hp p (by simp)) (hq q (by simp)) with ⟨h2, h3⟩ | h2
      · subst h3
        rw [if_pos h2, cmpL_app]
        exact ⟨h1.1, fun h => by rw [h1.2 h]⟩
      · rw [if_neg h2.ne, h2.cmp]
        exact ⟨rfl, fun h => absurd h h2.ne⟩
theorem cmpL_anti (x y : List UInt8) : cmpL x y = -cmpL y x := by
  induction x generalizing y with
  | nil => cases y with
    | nil => rfl
    | cons b y => rfl
  | cons a x ih =>
    cases y with
    | nil => rfl
    | cons b y =>
      rw [cmpL_cons, cmpL_cons]
      by_cases h : a = b
      · subst h; rw [if_pos rfl, if_pos rfl]; exact ih y
      · rw [if_neg h, if_neg (fun hh => h hh.symm)]
        unfold lowF
        (repeat' split) <;> omega
theorem cmpL_zero {x y : List UInt8} (h : cmpL x y = 0) : x = y := by
  unfold cmpL at h
  split at h
  · omega
  · split at h
    · assumption
    · omega
theorem cmpL_bd (x y : List UInt8) : -1 ≤ cmpL x y ∧ cmpL x y ≤ 1 := by
  unfold cmpL; (repeat' split) <;> omega
theorem cmpL_trans : ∀ (x y z : List UInt8), cmpL x y < 0 → cmpL y z < 0 → cmpL x z < 0 := by
  intro x
  induction x with
  | nil =>
    intro y z h1 h2
    cases z with
    | nil => cases y with
      | nil => exact h1
      | cons b y => exact absurd h2 (by show ¬ (1 : Int) < 0; omega)
    | cons c z => show (-1 : Int) < 0; omega
  | cons a x ih =>
    intro y z h1 h2
    cases y with
    | nil => exact absurd h1 (by show ¬ (1 : Int) < 0; omega)
    | cons b y =>
      cases z with
      | nil => exact absurd h2 (by show ¬ (1 : Int) < 0; omega)
      | cons c z =>
        rw [cmpL_cons] at h1 h2 ⊢
        by_cases hab : a = b
        · subst hab
          rw [if_pos rfl] at h1
          by_cases hac : a = c
          · rw [if_pos hac] at h2 ⊢
            exact ih y z h1 h2
          · rw [if_neg hac] at h2 ⊢
            exact h2
        · rw [if_neg hab] at h1
          by_cases hbc : b = c
          · subst hbc
            rw [if_neg hab]
            exact h1
          · rw [if_neg hbc] at h2
            have l1 : (a.toNat : Int) < b.toNat := by unfold lowF at h1; (repeat' split at h1) <;> omega
            have l2 : (b.toNat : Int) < c.toNat := by unfold lowF at h2; (repeat' split at h2) <;> omega
            have hac : ¬ a = c := fun hh => by subst hh; omega
            rw [if_neg hac]
            unfold lowF
            rw [if_pos (by omega)]
            omega
end Go.Proofs.YtgkiknfpcbcnnaaGreat
namespace Go.Proofs.YtgkiknfpcbcnnaaGreat
open Go.RowKit
set_option maxRecDepth 20000
theorem lowerFirst_any (a b : Int) (w : World) :
    Calls Tryz.prog 135 #[.int .i64 a, .int .i64 b] w fun e w' => e = .returned (.int .i64 (lowF a b)) ∧ w = w' := by
  unfold lowF
  by_cases h1 : a < b
  · rw [if_pos h1]
    go_enter Tryz.func135, Tryz.ntmps135; go_wp2; go_ret; exact ⟨rfl, rfl⟩
  · rw [if_neg h1]
    by_cases h2 : b < a
    · rw [if_pos h2]
      go_enter Tryz.func135, Tryz.ntmps135; go_wp2; go_ret; exact ⟨rfl, rfl⟩
    · rw [if_neg h2]
      go_enter Tryz.func135, Tryz.ntmps135; go_wp2; go_ret; exact ⟨rfl, rfl⟩
set_option maxHeartbeats 400000 in
theorem pcovers_any (b1 l1 b2 l2 : Int) (w : World) (h1 : prefOK b1 l1 = true) (h2 : prefOK b2 l2 = true) :
    Calls Tryz.prog 121 #[.agg #[.int .i64 b1, .int .i64 l1], .agg #[.int .i64 b2, .int .i64 l2]] w fun e w' => e = .returned (.bool (cov b1 l1 b2 l2)) ∧ Below w.heap.size w w' := by
  obtain ⟨_, _, v0, v1, _⟩ := prefOK_bd h2
  unfold cov
  by_cases hl : l1 ≤ l2
  · rw [decide_eq_true hl, Bool.true_and]
    go_enter Tryz.func121, Tryz.ntmps121
    go_wp2_with (go_at_call 132; refine (liesIn_any _ _ _ _ h1 v0 v1).mono ?_; rintro e w1 ⟨rfl, hb1⟩)
    go_ret
    exact ⟨rfl, ((below_alloc _ _).alloc (by simp) _).trans (hb1.mono (by simp; omega))⟩
  · have hd : decide (l1 ≤ l2) = false := by simpa using hl
    rw [hd, Bool.false_and]
    clear hl
    go_enter Tryz.func121, Tryz.ntmps121
    go_wp2
    go_ret
    exact ⟨rfl, (below_alloc _ _).alloc (by simp) _⟩
theorem cells_two {w w1 : World} {a b : Value} {t : TypeId} (hb : Below (w.alloc (.cells #[a, b] t)).heap.size (w.alloc (.cells #[a, b] t)) w1) :
    w1.cell? ⟨w.heap.size, 0, none⟩ = some a ∧ w1.cell? ⟨w.heap.size, 1, none⟩ = some b ∧ w.heap.size < w1.heap.size := by
  have hz := hb.size
  simp only [World.size_alloc] at hz
  exact ⟨(hb.cell (by simp)).trans (by simp [go_sem]), (hb.cell (by simp)).trans (by simp [go_sem]), by omega⟩
set_option maxHeartbeats 800000 in
theorem comparePrefixes_any (b1 l1 b2 l2 : Int) (w : World) (h1 : prefOK b1 l1 = true) (h2 : prefOK b2 l2 = true) :
    Calls Tryz.prog 136 #[.agg #[.int .i64 b1, .int .i64 l1], .agg #[.int .i64 b2, .int .i64 l2]] w fun e w' => e = .returned (.int .i64 (cmpPref b1 l1 b2 l2)) ∧ Below w.heap.size w w' := by
  unfold cmpPref
  cases c1 : cov b1 l1 b2 l2
  · cases c2 : cov b2 l2 b1 l1
    · simp only [Bool.or_self, Bool.false_eq_true, if_false]
      go_enter Tryz.func136, Tryz.ntmps136
      go_wp2_with fail
      refine (pcovers_any _ _ _ _ _ h1 h2).mono ?_
      rintro e w1 ⟨rfl, hb1⟩
      rw [c1]
      have hA : Below (w.alloc (.cells #[.int .i64 b1, .int .i64 l1] 39)).heap.size (w.alloc (.cells #[.int .i64 b1, .int .i64 l1] 39)) w1 := (below_alloc _ _).trans (hb1.mono (by simp))
      obtain ⟨a0, a1, az⟩ := cells_two hA
      obtain ⟨d0, d1, dz⟩ := cells_two hb1
      simp only [World.size_alloc] at d0 d1 dz
      go_wp2_with fail
      refine (pcovers_any _ _ _ _ _ h2 h1).mono ?_
      rintro e w2 ⟨rfl, hb2⟩
      rw [c2]
      have k0 := (hb2.cell (p := ⟨w.heap.size, 0, none⟩) az).trans a0
      have k1 := (hb2.cell (p := ⟨w.heap.size, 1, none⟩) az).trans a1
      have g0 := (hb2.cell (p := ⟨w.heap.size + 1, 0, none⟩) dz).trans d0
      have g1 := (hb2.cell (p := ⟨w.heap.size + 1, 1, none⟩) dz).trans d1
      go_wp2_with (go_at_call 135; refine (lowerFirst_any _ _ _).mono ?_; rintro e w' ⟨rfl, rfl⟩)
      go_ret
      exact ⟨rfl, (below_first hA).trans (hb2.mono (by omega))⟩
    · simp only [Bool.false_or, if_true]
      go_enter Tryz.func136, Tryz.ntmps136
      go_wp2_with fail
      refine (pcovers_any _ _ _ _ _ h1 h2).mono ?_
      rintro e w1 ⟨rfl, hb1⟩
      rw [c1]
      have hA : Below (w.alloc (.cells #[.int .i64 b1, .int .i64 l1] 39)).heap.size (w.alloc (.cells #[.int .i64 b1, .int .i64 l1] 39)) w1 := (below_alloc _ _).trans (hb1.mono (by simp))
      obtain ⟨a0, a1, az⟩ := cells_two hA
      obtain ⟨d0, d1, dz⟩ := cells_two hb1
      simp only [World.size_alloc] at d0 d1 dz
      go_wp2_with fail
      refine (pcovers_any _ _ _ _ _ h2 h1).mono ?_
      rintro e w2 ⟨rfl, hb2⟩
      rw [c2]
      have k0 := (hb2.cell (p := ⟨w.heap.size, 0, none⟩) az).trans a0
      have k1 := (hb2.cell (p := ⟨w.heap.size, 1, none⟩) az).trans a1
      have g0 := (hb2.cell (p := ⟨w.heap.size + 1, 0, none⟩) dz).trans d0
      have g1 := (hb2.cell (p := ⟨w.heap.size + 1, 1, none⟩) dz).trans d1
      go_wp2_with (go_at_call 135; refine (lowerFirst_any _ _ _).mono ?_; rintro e w' ⟨rfl, rfl⟩)
      go_ret
      exact ⟨rfl, (below_first hA).trans (hb2.mono (by omega))⟩
  · simp only [Bool.true_or, if_true]
    go_enter Tryz.func136, Tryz.ntmps136
    go_wp2_with fail
    refine (pcovers_any _ _ _ _ _ h1 h2).mono ?_
    rintro e w1 ⟨rfl, hb1⟩
    rw [c1]
    have hA : Below (w.alloc (.cells #[.int .i64 b1, .int .i64 l1] 39)).heap.size (w.alloc (.cells #[.int .i64 b1, .int .i64 l1] 39)) w1 := (below_alloc _ _).trans (hb1.mono (by simp))
    obtain ⟨a0, a1, az⟩ := cells_two hA
    obtain ⟨d0, d1, dz⟩ := cells_two hb1
    simp only [World.size_alloc] at d0 d1 dz
    go_wp2_with (go_at_call 135; refine (lowerFirst_any _ _ _).mono ?_; rintro e w' ⟨rfl, rfl⟩)
    go_ret
    exact ⟨rfl, below_first hA⟩
theorem bl_get (s : ByteArray) (j : Nat) (h : j < s.size) : (bl s).drop j = s[j] :: (bl s).drop (j + 1) := by
  have hl : j < (bl s).length := by rw [bl_len]; exact h
  rw [List.drop_eq_getElem_cons hl]
  rfl
set_option maxHeartbeats 800000 in
theorem compareBytes_any (s t : ByteArray) (w : World) (hs : s.size ≤ 1000) :
    Calls Tryz.prog 137 #[.string s, .string t] w fun e w' => e = .returned (.int .i64 (cmpB (bl s) (bl t))) ∧ ∃ n, w' = w.drewN n := by
  go_enter Tryz.func137, Tryz.ntmps137
  go_wp2
  go_loopw [5] (fun x wr => ∃ j n : Nat, x = .int .i64 j ∧ j ≤ s.size ∧ j ≤ t.size ∧ wr = w.drewN n ∧ Hid (cmpB (bl s) (bl t) = cmpB ((bl s).drop j) ((bl t).drop j))) (fun x _ => s.size - (intOf x).toNat)
  case atStart => exact ⟨0, 0, rfl, Nat.zero_le _, Nat.zero_le _, rfl, rfl⟩
  case round =>
    obtain ⟨j, n, rfl, hj, hj', rfl, H⟩ := hrel
    by_cases h1 : j < s.size
    · by_cases h2 : j < t.size
      · have i1 : (j : Int) < (s.size : Int) := by omega
        have i2 : (j : Int) < (t.size : Int) := by omega
        by_cases he : s[j] = t[j]
        · have HN : Hid (cmpB (bl s) (bl t) = cmpB ((bl s).drop (j + 1)) ((bl t).drop (j + 1))) := by
            show _ = _
            rw [H.out, bl_get s j h1, bl_get t j h2]
            show (if s[j] = t[j] then _ else _) = _
            rw [if_pos he]
          clear H
          have hb : ((s[j].toNat : Int) == (t[j].toNat : Int)) = true := by rw [he]; simp
          have hb2 : (s[j].toNat == t[j].toNat) = true := by rw [he]; simp
          go_wp2_with fail
          go_quiet (fail)
          go_wp2
          go_roundw
          case rel => exact ⟨j + 1, _, by go_num, by omega, by omega, rfl, HN⟩
          case measure => simp [intOf]; omega
        · have HN : Hid (cmpB (bl s) (bl t) = lowF s[j].toNat t[j].toNat) := by
            show _ = _
            rw [H.out, bl_get s j h1, bl_get t j h2]
            show (if s[j] = t[j] then _ else _) = _
            rw [if_neg he]
          clear H
          have hne : s[j].toNat ≠ t[j].toNat := fun hh => he (UInt8.toNat_inj.1 hh)
          have hb : ((s[j].toNat : Int) == (t[j].toNat : Int)) = false := beq_eq_false_iff_ne.2 (by omega)
          have hb2 : (s[j].toNat == t[j].toNat) = false := beq_eq_false_iff_ne.2 hne
          clear hne
          go_wp2_with fail
          go_quiet (fail)
          go_wp2_with fail
          go_quiet ((go_at_call 135; exact (lowerFirst_any _ _ _).mono fun _ _ h => ⟨h.1, _, h.2.symm⟩))
          go_wp2_with fail
          go_ret
          have u1 := UInt8.toNat_lt s[j]
          have u2 := UInt8.toNat_lt t[j]
          have x1 : wrap64 (s[j].toNat : Int) = s[j].toNat := IntWalk.wrap64_in _ ⟨by omega, by omega⟩
          have x2 : wrap64 (t[j].toNat : Int) = t[j].toNat := IntWalk.wrap64_in _ ⟨by omega, by omega⟩
          refine ⟨?_, _, by rw [World.drewN_drewN, World.drewN_drewN]⟩
          rw [HN.out]
          show Ending.returned (.int .i64 (lowF (wrap64 (s[j].toNat : Int)) (wrap64 (t[j].toNat : Int)))) = _
          rw [x1, x2]
      · have HN : Hid (cmpB (bl s) (bl t) = 0) := by
          show _ = _
          rw [H.out, List.drop_of_length_le (l := bl t) (by rw [bl_len]; omega)]
          cases (bl s).drop j <;> rfl
        clear H
        have d2 : decide ((j : Int) < (t.size : Int)) = false := by simp; omega
        go_wp2
        go_ret
        exact ⟨by rw [HN.out]; rfl, _, rfl⟩
    · have HN : Hid (cmpB (bl s) (bl t) = 0) := by
        show _ = _
        rw [H.out, List.drop_of_length_le (l := bl s) (by rw [bl_len]; omega)]
        rfl
      clear H
      go_wp2
      go_ret
      exact ⟨by rw [HN.out]; rfl, _, rfl⟩
end Go.Proofs.YtgkiknfpcbcnnaaGreat
