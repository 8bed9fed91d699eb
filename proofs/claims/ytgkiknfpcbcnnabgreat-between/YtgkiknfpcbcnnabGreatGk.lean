import Derived.Test.YtgkiknfpcbcnnabGreatGi
import Derived.Test.YtgkiknfpcbcnnabGreatGj
import Derived.Test.YtgkiknfpcbcnnabGreatGc
namespace Go.Proofs.YtgkiknfpcbcnnabGreat
open Go.RowKit
set_option maxRecDepth 20000

/-- A group from its first term on (f: it is the first one). -/
def gS (k v : Int) : Bool → List Tm → Bool
  | _, [] => true
  | f, t :: r => if f || t.an then tmH k t v && gS k v false r else true

theorem gS_gR (k v : Int) : ∀ ts, gS k v false ts = gR k v ts := by
  intro ts
  induction ts with
  | nil => rfl
  | cons t r ih => simp only [gS, gR, ih, Bool.false_or]

end Go.Proofs.YtgkiknfpcbcnnabGreat

namespace Go.Proofs.YtgkiknfpcbcnnabGreat
open Go.RowKit
set_option maxRecDepth 20000

/-- The bits as a list. -/
def dgL (x : Nat) : UInt8 := if x % 2 = 1 then 49 else 48
def binL (v : Nat) : Nat → List UInt8
  | 0 => []
  | n + 1 => dgL (v / 2 ^ n) :: binL v n

theorem bl_bin (v : Nat) : ∀ n, bl (bin v n) = binL v n := by
  intro n
  induction n with
  | zero => rfl
  | succ n ih =>
    simp only [bin, binL, bl_app, ih]
    unfold dg dgL
    split <;> rfl

theorem binL_len (v : Nat) : ∀ n, (binL v n).length = n := by
  intro n
  induction n with
  | zero => rfl
  | succ n ih => simp [binL, ih]

theorem binL_take (v : Nat) : ∀ (n l : Nat), l ≤ n → (binL v n).take l = binL (v / 2 ^ (n - l)) l := by
  intro n
  induction n with
  | zero => intro l hl; obtain rfl : l = 0 := by omega
            rfl
  | succ n ih =>
    intro l hl
    cases l with
    | zero => rfl
    | succ l =>
      simp only [binL, List.take_succ_cons]
      rw [ih l (by omega)]
      have e1 : n + 1 - (l + 1) = n - l := by omega
      have e2 : v / 2 ^ (n - l) / 2 ^ l = v / 2 ^ n := by rw [Nat.div_div_eq_div_mul, ← Nat.pow_add]; congr 2; omega
      rw [e1, e2]

theorem binL_inj : ∀ (n x y : Nat), x < 2 ^ n → y < 2 ^ n → binL x n = binL y n → x = y := by
  intro n
  induction n with
  | zero => intro x y hx hy _; simp at hx hy; omega
  | succ n ih =>
    intro x y hx hy h
    simp only [binL, List.cons.injEq] at h
    obtain ⟨h1, h2⟩ := h
    have hp : 0 < 2 ^ n := Nat.two_pow_pos n
    rw [Nat.pow_succ] at hx hy
    have qx : x / 2 ^ n < 2 := (Nat.div_lt_iff_lt_mul hp).2 (by rw [Nat.mul_comm]; exact hx)
    have qy : y / 2 ^ n < 2 := (Nat.div_lt_iff_lt_mul hp).2 (by rw [Nat.mul_comm]; exact hy)
    have hq : x / 2 ^ n = y / 2 ^ n := by
      unfold dgL at h1
      rw [Nat.mod_eq_of_lt qx, Nat.mod_eq_of_lt qy] at h1
      generalize x / 2 ^ n = q1 at *
      generalize y / 2 ^ n = q2 at *
      by_cases c1 : q1 = 1 <;> by_cases c2 : q2 = 1
      · omega
      · rw [if_pos c1, if_neg c2] at h1; exact absurd h1 (by decide)
      · rw [if_neg c1, if_pos c2] at h1; exact absurd h1 (by decide)
      · omega
    have low : ∀ (m z : Nat), m ≤ n → binL z m = binL (z % 2 ^ n) m := by
      intro m z hm
      induction m with
      | zero => rfl
      | succ m ihm =>
        simp only [binL]
        rw [← ihm (by omega)]
        congr 1
        unfold dgL
        have hb : z / 2 ^ m % 2 = z % 2 ^ n / 2 ^ m % 2 := by
          have t1 : z.testBit m = decide (z / 2 ^ m % 2 = 1) := tb z m
          have t2 : (z % 2 ^ n).testBit m = decide (z % 2 ^ n / 2 ^ m % 2 = 1) := tb _ m
          rw [Nat.testBit_mod_two_pow] at t2
          have : decide (m < n) = true := by simp; omega
          rw [this, Bool.true_and, t1] at t2
          have l1 : z / 2 ^ m % 2 < 2 := Nat.mod_lt _ (by omega)
          have l2 : z % 2 ^ n / 2 ^ m % 2 < 2 := Nat.mod_lt _ (by omega)
          by_cases c1 : z / 2 ^ m % 2 = 1 <;> by_cases c2 : z % 2 ^ n / 2 ^ m % 2 = 1
          · omega
          · simp [c1, c2] at t2
          · simp [c1, c2] at t2
          · omega
        rw [hb]
    rw [low n x (Nat.le_refl _), low n y (Nat.le_refl _)] at h2
    have hr := ih _ _ (Nat.mod_lt _ hp) (Nat.mod_lt _ hp) h2
    have d1 := Nat.div_add_mod x (2 ^ n)
    have d2 := Nat.div_add_mod y (2 ^ n)
    rw [hq] at d1
    omega

/-- The first bits of a number. -/
def pfx (v l : Nat) : ByteArray := (bin v 16).extract 0 l

theorem bl_pfx (v l : Nat) (h : l ≤ 16) : bl (pfx v l) = binL (v / 2 ^ (16 - l)) l := by
  have : bl (pfx v l) = (bl (bin v 16)).take l := by
    unfold pfx bl
    rw [ByteArray.data_extract]
    simp
  rw [this, bl_bin, binL_take v 16 l h]

theorem shr_lt (v l : Nat) (h : l ≤ 16) (hv : v ≤ 65535) : v / 2 ^ (16 - l) < 2 ^ l := by
  rw [Nat.div_lt_iff_lt_mul (Nat.two_pow_pos _), ← Nat.pow_add]
  have : l + (16 - l) = 16 := by omega
  rw [this]
  omega

theorem pfx_eq (v b l : Nat) (h : l ≤ 16) (hv : v ≤ 65535) (hb : b ≤ 65535) : ((pfx v l).toList == (pfx b l).toList) = lies v b l := by
  rw [ByteArray.toList_eq, ByteArray.toList_eq]
  have e1 : (pfx v l).data.toList = binL (v / 2 ^ (16 - l)) l := bl_pfx v l h
  have e2 : (pfx b l).data.toList = binL (b / 2 ^ (16 - l)) l := bl_pfx b l h
  rw [e1, e2]
  unfold lies
  have ek : ((16 : Int) - (l : Int)).toNat = 16 - l := by omega
  rw [ek]
  have e0 : (2 : Int) ^ (16 - l) = ((2 ^ (16 - l) : Nat) : Int) := by simp
  rw [e0, ← Int.natCast_ediv, ← Int.natCast_ediv]
  by_cases hx : v / 2 ^ (16 - l) = b / 2 ^ (16 - l)
  · rw [hx]; simp
  · have h1 : ¬ ((v / 2 ^ (16 - l) : Nat) : Int) = ((b / 2 ^ (16 - l) : Nat) : Int) := fun hh => hx (Int.ofNat_inj.1 hh)
    rw [decide_eq_false h1]
    exact beq_eq_false_iff_ne.2 fun hh => hx (binL_inj l _ _ (shr_lt v l h hv) (shr_lt b l h hb) hh)

end Go.Proofs.YtgkiknfpcbcnnabGreat
