import Derived.Test.YtgkiknfpcbcnnaaGn
import Derived.Test.YtgkiknfpcbcnnaaGr
namespace Go.Proofs.Ytgkiknfpcbcnnaa
open Go.RowKit
set_option maxRecDepth 20000

/-- Nothing changes but at these numbers. -/
def StpN (f : Nat → Bool) (pts : List Nat) : Prop := ∀ v, v + 1 ∉ pts → f (v + 1) = f v
/-- Is it so of some number from lo on, of n, told by these numbers alone? -/
def anyF (f : Nat → Bool) (pts : List Nat) (lo n : Nat) : Bool := f lo || pts.any fun p => decide (lo < p) && decide (p < lo + n) && f p

theorem anyF_eq {f : Nat → Bool} {pts : List Nat} (hs : StpN f pts) (lo n : Nat) (hn : 0 < n) : anyB f lo n = anyF f pts lo n := by
  rw [Bool.eq_iff_iff, anyB_iff]
  unfold anyF
  constructor
  · rintro ⟨v, h1, h2, h3⟩
    have reach : ∀ k : Nat, k < n → f (lo + k) = true → (f lo || pts.any fun p => decide (lo < p) && decide (p < lo + n) && f p) = true := by
      intro k
      induction k with
      | zero => intro _ h; simp at h; simp [h]
      | succ k ih =>
        intro hk h
        by_cases hp : lo + k + 1 ∈ pts
        · rw [Bool.or_eq_true]
          right
          rw [List.any_eq_true]
          exact ⟨lo + k + 1, hp, by simp only [Bool.and_eq_true, decide_eq_true_eq]; exact ⟨⟨by omega, by omega⟩, h⟩⟩
        · exact ih (by omega) (by rw [← hs (lo + k) hp]; exact h)
    exact reach (v - lo) (by omega) (by have e : lo + (v - lo) = v := by omega
                                        rw [e]; exact h3)
  · intro h
    rw [Bool.or_eq_true, List.any_eq_true] at h
    rcases h with h | ⟨p, _, hp⟩
    · exact ⟨lo, by omega, by omega, h⟩
    · simp only [Bool.and_eq_true, decide_eq_true_eq] at hp
      exact ⟨p, by omega, hp.1.2, hp.2⟩

theorem StpN.not {f : Nat → Bool} {pts : List Nat} (h : StpN f pts) : StpN (fun v => !f v) pts := fun v hv => by show (!f (v + 1)) = !f v; rw [h v hv]

/-- The cover, told quickly. -/
def covF (f : Nat → Bool) (pts : List Nat) : Nat → List UInt8 → Nat → List (List UInt8)
  | 0, pre, x => if f x then [pre] else []
  | n + 1, pre, x => if anyF f pts (x * 2 ^ (n + 1)) (2 ^ (n + 1)) then (if anyF (fun v => !f v) pts (x * 2 ^ (n + 1)) (2 ^ (n + 1)) then covF f pts n (pre ++ [48]) (2 * x) ++ covF f pts n (pre ++ [49]) (2 * x + 1) else [pre ++ List.replicate (n + 1) 42]) else []

theorem covF_eq {f : Nat → Bool} {pts : List Nat} (hs : StpN f pts) : ∀ n pre x, covS f n pre x = covF f pts n pre x := by
  intro n
  induction n with
  | zero => intro pre x; rfl
  | succ n ih =>
    intro pre x
    have ey : yesB f (n + 1) x = anyF f pts (x * 2 ^ (n + 1)) (2 ^ (n + 1)) := anyF_eq hs _ _ (Nat.two_pow_pos _)
    have en : noB f (n + 1) x = anyF (fun v => !f v) pts (x * 2 ^ (n + 1)) (2 ^ (n + 1)) := anyF_eq hs.not _ _ (Nat.two_pow_pos _)
    simp only [covS, covF]
    rw [ey, en, ih, ih]

/-- The numbers at which a part of type 3 or 4 may change. -/
def ptsOf (ts : List Tm) : List Nat := ts.flatMap fun t => [t.vl.toNat, t.vl.toNat + 1]

theorem gH_stpN (k : Int) (hk : k ≠ 5) (ts : List Tm) (h0 : ∀ t ∈ ts, 0 ≤ t.vl) : StpN (fun v => gH k (v : Int) ts) (ptsOf ts) := by
  intro v hv
  have := gH_stp k hk ts (v : Int) (fun t ht => by
    have hm : ∀ x ∈ [t.vl.toNat, t.vl.toNat + 1], v + 1 ≠ x := fun x hx hh => hv (by
      unfold ptsOf
      rw [List.mem_flatMap]
      exact ⟨t, ht, by rw [hh]; exact hx⟩)
    have h1 := hm t.vl.toNat (by simp)
    have h2 := hm (t.vl.toNat + 1) (by simp)
    have h3 := h0 t ht
    omega)
  show gH k ((v + 1 : Nat) : Int) ts = gH k (v : Int) ts
  have e : ((v + 1 : Nat) : Int) = (v : Int) + 1 := by omega
  rw [e]
  exact this

/-- The blocks of a part of type 3 or 4, told quickly. -/
theorem blkP_fast {p : Pt} (hp : hasP p.ty = false) (hk : p.ty ≠ 5) (h0 : ∀ t ∈ p.ts, 0 ≤ t.vl) : blkP p = covF (fun v => gH p.ty (v : Int) p.ts) (ptsOf p.ts) (wOf p.ty) [] 0 := by
  unfold blkP
  rw [hp]
  simp only [Bool.false_eq_true, if_false]
  exact covF_eq (gH_stpN p.ty hk p.ts h0) _ _ _

/-- Ports from 80 to 82. -/
def kP1 : Pt := ⟨4, 0, 0, [⟨false, false, 3, 80⟩, ⟨true, false, 5, 82⟩]⟩
theorem k1_blocks : blkP kP1 = [[48, 48, 48, 48, 48, 48, 48, 48, 48, 49, 48, 49, 48, 48, 48, 42], [48, 48, 48, 48, 48, 48, 48, 48, 48, 49, 48, 49, 48, 48, 49, 48]] := by
  rw [blkP_fast (p := kP1) rfl (by decide) (by decide)]
  decide +kernel
def kP2 : Pt := ⟨4, 0, 0, [⟨false, false, 6, 0⟩]⟩
theorem k2_len : (blkP kP2).length = 16 := by
  rw [blkP_fast (p := kP2) rfl (by decide) (by decide)]
  decide +kernel
def kP3 : Pt := ⟨5, 0, 0, [⟨false, false, 1, 2⟩]⟩
theorem k3_len : (blkP kP3).length = 64 := by decide +kernel
def kP9 : Pt := ⟨3, 0, 0, [⟨false, false, 6, 0⟩]⟩
theorem k9_len : (blkP kP9).length = 8 := by
  rw [blkP_fast (p := kP9) rfl (by decide) (by decide)]
  decide +kernel
def kP4 : Pt := ⟨5, 0, 0, [⟨false, false, 2, 192⟩]⟩
theorem k4_blocks : blkP kP4 = [[48, 48, 42, 42, 42, 42, 42, 42]] := by decide +kernel
end Go.Proofs.Ytgkiknfpcbcnnaa

namespace Go.Proofs.Ytgkiknfpcbcnnaa
open Go.RowKit
set_option maxRecDepth 20000

theorem blkS_cons (k : Int) (p : Pt) (r : List Pt) : blkS k (p :: r) = if p.ty = k then blkP p else blkS k r := rfl
theorem blkS_nil (k : Int) : blkS k [] = [List.replicate (wOf k) 42] := rfl

theorem dec_of {s : ByteArray} {ps : List Pt} (hR : isR ps = true) (hw : bl (wParts ps) = bl s) : decS s = some ps := by
  have e : s = wParts ps := (bl_inj hw).symm
  rw [e]; exact decS_complete ps hR

theorem kn0 : decS ⟨#[1, 8, 10, 3, 129, 6]⟩ = some [⟨1, 2560, 8, []⟩, ⟨3, 0, 0, [⟨false, false, 1, 6⟩]⟩] := dec_of (by decide) (by decide +kernel)
theorem kn1 : decS ⟨#[4, 3, 80, 197, 82]⟩ = some [kP1] := dec_of (by decide) (by decide +kernel)
theorem kn2 : decS ⟨#[4, 134, 0]⟩ = some [kP2] := dec_of (by decide) (by decide +kernel)
theorem kn3 : decS ⟨#[5, 129, 2]⟩ = some [kP3] := dec_of (by decide) (by decide +kernel)
theorem kn4 : decS ⟨#[5, 130, 192]⟩ = some [kP4] := dec_of (by decide) (by decide +kernel)
theorem kn5a : decS ⟨#[1, 8, 10]⟩ = some [⟨1, 2560, 8, []⟩] := dec_of (by decide) (by decide +kernel)
theorem kn5b : decS ⟨#[1, 16, 10, 1]⟩ = some [⟨1, 2561, 16, []⟩] := dec_of (by decide) (by decide +kernel)
theorem kn6b : decS ⟨#[2, 8, 10]⟩ = some [⟨2, 2560, 8, []⟩] := dec_of (by decide) (by decide +kernel)
theorem kn8 : decS ⟨#[1, 4, 15]⟩ = none := by decide +kernel
theorem kn9 : decS ⟨#[3, 134, 0, 5, 129, 2]⟩ = some [kP9, kP3] := dec_of (by decide) (by decide +kernel)

theorem ct_of {s : ByteArray} {ps : List Pt} (h : decS s = some ps) : ctC s = nS ps ∧ eS s = 0 := by
  unfold ctC eS dS; rw [h]; exact ⟨rfl, rfl⟩
theorem ct3 : ctC ⟨#[5, 129, 2]⟩ = 64 ∧ eS ⟨#[5, 129, 2]⟩ = 0 := by
  obtain ⟨a, b⟩ := ct_of kn3
  refine ⟨?_, b⟩
  rw [a]
  show 1 * 1 * (blkP kP3).length = 64
  rw [k3_len]
theorem ct8 : ctC ⟨#[1, 4, 15]⟩ = 0 ∧ eS ⟨#[1, 4, 15]⟩ = 1 := by
  unfold ctC eS; rw [kn8]; exact ⟨rfl, rfl⟩
theorem n9 : nS [kP9, kP3] = 512 := by
  show (blkP kP9).length * 1 * (blkP kP3).length = 512
  rw [k9_len, k3_len]
theorem ct9 : ctC ⟨#[3, 134, 0, 5, 129, 2]⟩ = 512 ∧ eS ⟨#[3, 134, 0, 5, 129, 2]⟩ = 0 := by
  obtain ⟨a, b⟩ := ct_of kn9
  exact ⟨by rw [a, n9], b⟩
theorem cb9 : cbE ⟨#[3, 134, 0, 5, 129, 2]⟩ = 4 ∧ cbL ⟨#[3, 134, 0, 5, 129, 2]⟩ = [] := by
  unfold cbE cbL dS
  rw [kn9]
  simp only [Option.isSome_some, Option.getD_some, if_true, n9]
  exact ⟨rfl, rfl⟩

theorem cb4 : cbE ⟨#[5, 130, 192]⟩ = 0 ∧ cbL ⟨#[5, 130, 192]⟩ = [List.replicate 56 42 ++ [48, 48, 42, 42, 42, 42, 42, 42] ++ [48]] := by
  have hn : nS [kP4] = 1 := by show 1 * 1 * (blkP kP4).length = 1; rw [k4_blocks]; rfl
  unfold cbE cbL dS
  rw [kn4]
  simp only [Option.isSome_some, Option.getD_some, if_true, hn]
  refine ⟨rfl, ?_⟩
  show cubS [kP4] = _
  have e : blkS 5 [kP4] = blkP kP4 := rfl
  unfold cubS
  rw [e, k4_blocks]
  rfl

theorem nS_4 (p : Pt) (h : p.ty = 4) : nS [p] = (blkP p).length := by
  unfold nS
  rw [blkS_cons 3, if_neg (by omega), blkS_nil, blkS_cons 4, if_pos h, blkS_cons 5, if_neg (by omega), blkS_nil]
  simp
theorem cubS_4 (p : Pt) (h : p.ty = 4) : cubS [p] = (blkP p).map fun b => List.replicate 40 42 ++ b ++ (List.replicate 8 42 ++ [48]) := by
  have he : endC [p] = 48 := by unfold endC; simp [h]
  have e8 : wOf 3 = 8 ∧ wOf 5 = 8 ∧ wOf 1 = 16 ∧ wOf 2 = 16 := by decide
  obtain ⟨a, b, c, d⟩ := e8
  unfold cubS
  rw [he, blkS_cons 3, if_neg (by omega), blkS_nil, blkS_cons 4, if_pos h, blkS_cons 5, if_neg (by omega), blkS_nil, blkS_cons 1, if_neg (by omega), blkS_nil, blkS_cons 2, if_neg (by omega), blkS_nil, a, b, c, d]
  generalize blkP p = L
  induction L with
  | nil => rfl
  | cons x L ih =>
    simp only [List.flatMap_cons, List.flatMap_nil, List.map_cons, List.map_nil, List.append_nil, List.headD_cons, List.singleton_append] at ih ⊢
    rw [ih]
    congr 1
    simp [List.append_assoc]
theorem cb_of {s : ByteArray} {ps : List Pt} {n : Nat} (h : decS s = some ps) (hn : nS ps = n) (h256 : n ≤ 256) : cbE s = 0 ∧ cbL s = cubS ps := by
  unfold cbE cbL dS
  rw [h]
  simp only [Option.isSome_some, Option.getD_some, if_true, hn, h256, decide_true, Bool.and_self]
  exact ⟨trivial, trivial⟩
theorem ct2 : ctC ⟨#[4, 134, 0]⟩ = 16 ∧ eS ⟨#[4, 134, 0]⟩ = 0 := by
  obtain ⟨a, b⟩ := ct_of kn2
  exact ⟨by rw [a, nS_4 kP2 rfl, k2_len], b⟩
theorem cb1 : cbE ⟨#[4, 3, 80, 197, 82]⟩ = 0 ∧ cbL ⟨#[4, 3, 80, 197, 82]⟩ = [List.replicate 40 42 ++ [48, 48, 48, 48, 48, 48, 48, 48, 48, 49, 48, 49, 48, 48, 48, 42] ++ (List.replicate 8 42 ++ [48]), List.replicate 40 42 ++ [48, 48, 48, 48, 48, 48, 48, 48, 48, 49, 48, 49, 48, 48, 49, 48] ++ (List.replicate 8 42 ++ [48])] := by
  have hn : nS [kP1] = 2 := by rw [nS_4 kP1 rfl, k1_blocks]; rfl
  obtain ⟨a, b⟩ := cb_of kn1 hn (by omega)
  refine ⟨a, ?_⟩
  rw [b, cubS_4 kP1 rfl, k1_blocks]
  rfl

theorem cc5 : cC ⟨#[1, 8, 10]⟩ ⟨#[1, 16, 10, 1]⟩ = 1 ∧ cE ⟨#[1, 8, 10]⟩ ⟨#[1, 16, 10, 1]⟩ = 0 := by
  unfold cC cE dS; rw [kn5a, kn5b]; exact ⟨by decide +kernel, rfl⟩
theorem cc6 : cC ⟨#[1, 8, 10]⟩ ⟨#[2, 8, 10]⟩ = -1 ∧ cE ⟨#[1, 8, 10]⟩ ⟨#[2, 8, 10]⟩ = 0 := by
  unfold cC cE dS; rw [kn5a, kn6b]; exact ⟨by decide +kernel, rfl⟩

theorem mm7 : mB ⟨#[4, 3, 80, 197, 82]⟩ ⟨0, 0, 0, 81, 0, false⟩ = true ∧ mE ⟨#[4, 3, 80, 197, 82]⟩ ⟨0, 0, 0, 81, 0, false⟩ = 0 ∧ mB ⟨#[4, 3, 80, 197, 82]⟩ ⟨0, 0, 0, 81, 0, true⟩ = false ∧ mE ⟨#[4, 3, 80, 197, 82]⟩ ⟨0, 0, 0, 81, 0, true⟩ = 0 := by
  unfold mB mE dS; rw [kn1]; exact ⟨by decide +kernel, rfl, by decide +kernel, rfl⟩
end Go.Proofs.Ytgkiknfpcbcnnaa
