import Derived.Test.YtgkiknfpcbcnnabGreatGm
import Derived.Test.YtgkiknfpcbcnnabGreatGh
import Derived.Deep.RegionHeldLaw
import Derived.Deep.AppendLies
namespace Go.Proofs.YtgkiknfpcbcnnabGreat
open Go.RowKit
set_option maxRecDepth 20000

theorem blkP_len (p : Pt) : (blkP p).length ≤ 2 ^ wOf p.ty := by
  unfold blkP
  split
  · simp; exact Nat.one_le_two_pow
  · exact covS_len _ _ _ _
theorem blkS_len (k : Int) : ∀ ps, (blkS k ps).length ≤ 2 ^ wOf k := by
  intro ps
  induction ps with
  | nil => simp [blkS]; exact Nat.one_le_two_pow
  | cons p r ih =>
    simp only [blkS]
    split
    · rename_i h; rw [← h]; exact blkP_len p
    · exact ih

def nS (ps : List Pt) : Nat := (blkS 3 ps).length * (blkS 4 ps).length * (blkS 5 ps).length
theorem lens (ps : List Pt) : (blkS 3 ps).length ≤ 256 ∧ (blkS 4 ps).length ≤ 65536 ∧ (blkS 5 ps).length ≤ 256 := ⟨blkS_len 3 ps, blkS_len 4 ps, blkS_len 5 ps⟩

/-- What Count answers. -/
def ctC (s : ByteArray) : Nat := if (decS s).isSome then nS (dS s) else 0

theorem isP_dS (s : ByteArray) : ∀ j (h : j < (dS s).length), isP (dS s)[j] = true := by
  unfold dS
  cases h : decS s with
  | none => intro j hj; simp at hj
  | some ps =>
    have hR := (decS_sound s ps h).1
    unfold isR at hR
    simp only [Bool.and_eq_true] at hR
    exact allP_get ps 0 hR.1

theorem eS_no {s : ByteArray} (h : (decS s).isSome = false) : eS s = 1 := by unfold eS; simp [h]
theorem eS_yes {s : ByteArray} (h : (decS s).isSome = true) : eS s = 0 := by unfold eS; simp [h]

theorem mul_bd {a b c : Nat} (ha : a ≤ 256) (hb : b ≤ 65536) (hc : c ≤ 256) : a * b ≤ 16777216 ∧ a * b * c ≤ 4294967296 := by
  have h1 : a * b ≤ 256 * 65536 := Nat.mul_le_mul ha hb
  have h2 : a * b * c ≤ 256 * 65536 * 256 := Nat.mul_le_mul h1 hc
  omega

end Go.Proofs.YtgkiknfpcbcnnabGreat

namespace Go.Proofs.YtgkiknfpcbcnnabGreat
open Go.RowKit
set_option maxRecDepth 20000

/-- All pairs, one list's element slowly, the other's fast. -/
theorem range_pairs {α β γ : Type} [Inhabited α] [Inhabited β] (f : α → β → γ) (B : List β) : ∀ A : List α, (List.range (A.length * B.length)).map (fun i => f (A.getD (i / B.length) default) (B.getD (i % B.length) default)) = A.flatMap fun a => B.map (f a) := by
  intro A
  induction A with
  | nil => simp
  | cons a A ih =>
    rw [List.flatMap_cons, ← ih]
    have e : (a :: A).length * B.length = B.length + A.length * B.length := by rw [List.length_cons, Nat.add_mul, Nat.one_mul, Nat.add_comm]
    rw [e, List.range_add, List.map_append, List.map_map]
    congr 1
    · apply List.ext_getElem
      · simp
      · intro i h1 h2
        simp only [List.getElem_map, List.getElem_range]
        have hi : i < B.length := by simpa using h2
        rw [Nat.div_eq_of_lt hi, Nat.mod_eq_of_lt hi]
        simp [List.getD_eq_getElem?_getD, List.getElem?_eq_getElem hi]
    · apply List.map_congr_left
      intro i hi
      have hB : 0 < B.length := by
        rcases Nat.eq_zero_or_pos B.length with h | h
        · rw [h, Nat.mul_zero] at hi; simp at hi
        · exact h
      show f ((a :: A).getD ((B.length + i) / B.length) default) (B.getD ((B.length + i) % B.length) default) = _
      rw [Nat.add_div_left _ hB, Nat.add_mod_left]
      rfl

def endC (ps : List Pt) : UInt8 := if ps.any (fun p => decide (4 ≤ p.ty)) then 48 else 42
/-- The cubes of a rule. -/
def cubS (ps : List Pt) : List (List UInt8) := (blkS 3 ps).flatMap fun a => (blkS 4 ps).flatMap fun b => (blkS 5 ps).map fun c => ((blkS 1 ps).headD [] ++ (blkS 2 ps).headD []) ++ a ++ b ++ c ++ [endC ps]

theorem cubS_range (ps : List Pt) : cubS ps = (List.range (nS ps)).map fun i => ((blkS 1 ps).headD [] ++ (blkS 2 ps).headD []) ++ (blkS 3 ps).getD (i / ((blkS 4 ps).length * (blkS 5 ps).length)) [] ++ (blkS 4 ps).getD (i / (blkS 5 ps).length % (blkS 4 ps).length) [] ++ (blkS 5 ps).getD (i % (blkS 5 ps).length) [] ++ [endC ps] := by
  unfold cubS nS
  generalize (blkS 1 ps).headD [] ++ (blkS 2 ps).headD [] = pre
  generalize blkS 3 ps = A
  generalize blkS 4 ps = B
  generalize blkS 5 ps = C
  generalize [endC ps] = z
  have h1 : ∀ a : List UInt8, (B.flatMap fun b => C.map fun c => pre ++ a ++ b ++ c ++ z) = (List.range (B.length * C.length)).map fun i => pre ++ a ++ B.getD (i / C.length) [] ++ C.getD (i % C.length) [] ++ z := fun a =>
    (range_pairs (fun b c => pre ++ a ++ b ++ c ++ z) C B).symm
  have h2 : (A.flatMap fun a => B.flatMap fun b => C.map fun c => pre ++ a ++ b ++ c ++ z) = A.flatMap fun a => (List.range (B.length * C.length)).map fun i => pre ++ a ++ B.getD (i / C.length) [] ++ C.getD (i % C.length) [] ++ z := by
    congr 1
    funext a
    exact h1 a
  rw [h2]
  have h3 := range_pairs (fun (a : List UInt8) (i : Nat) => pre ++ a ++ B.getD (i / C.length) [] ++ C.getD (i % C.length) [] ++ z) (List.range (B.length * C.length)) A
  rw [← h3, List.length_range, Nat.mul_assoc]
  apply List.map_congr_left
  intro i hi
  have hpos : 0 < B.length * C.length := by
    rcases Nat.eq_zero_or_pos (B.length * C.length) with h | h
    · rw [h, Nat.mul_zero] at hi; simp at hi
    · exact h
  have hm : i % (B.length * C.length) < B.length * C.length := Nat.mod_lt _ hpos
  have e0 : (List.range (B.length * C.length)).getD (i % (B.length * C.length)) default = i % (B.length * C.length) := by
    rw [List.getD_eq_getElem?_getD, List.getElem?_range hm]
    rfl
  rw [e0]
  have e1 : i % (B.length * C.length) / C.length = i / C.length % B.length := by
    rw [Nat.mul_comm, Nat.mod_mul_right_div_self]
  have e2 : i % (B.length * C.length) % C.length = i % C.length := Nat.mod_mul_left_mod i B.length C.length
  rw [e1, e2]
  rfl

theorem blkP_w {p : Pt} (hp : isP p = true) : ∀ b ∈ blkP p, b.length = wOf p.ty := by
  intro b hb
  unfold blkP at hb
  split at hb
  · rename_i h
    obtain ⟨o1, o2, _⟩ := prefOK_bd (isP_pref hp h).2
    simp only [List.mem_singleton] at hb
    have hk := hasP_bd h
    have hw : wOf p.ty = 16 := by unfold wOf; rw [if_neg (by omega)]
    rw [hb, hw, List.length_append, binL_len, List.length_replicate]
    omega
  · obtain ⟨r, rfl, hr⟩ := covS_pre _ _ _ _ b hb
    simpa using hr
theorem blkS_w (k : Int) : ∀ ps : List Pt, (∀ p ∈ ps, isP p = true) → ∀ b ∈ blkS k ps, b.length = wOf k := by
  intro ps
  induction ps with
  | nil => intro _ b hb; simp only [blkS, List.mem_singleton] at hb; rw [hb]; simp
  | cons p r ih =>
    intro h b hb
    simp only [blkS] at hb
    split at hb
    · rename_i he; rw [← he]; exact blkP_w (h p (by simp)) b hb
    · exact ih (fun x hx => h x (by simp [hx])) b hb
theorem blkS_one (k : Int) (hk : k = 1 ∨ k = 2) : ∀ ps, ∃ d, blkS k ps = [d] := by
  intro ps
  induction ps with
  | nil => exact ⟨_, rfl⟩
  | cons p r ih =>
    simp only [blkS]
    split
    · rename_i h
      unfold blkP
      have : hasP p.ty = true := by rw [h]; rcases hk with rfl | rfl <;> rfl
      rw [if_pos this]
      exact ⟨_, rfl⟩
    · exact ih

/-- The end's text. -/
def eB (b : Bool) : ByteArray := if b then ⟨#[48]⟩ else ⟨#[42]⟩
theorem eB_size (b : Bool) : (eB b).size = 1 := by cases b <;> rfl
theorem bl_eB (ps : List Pt) : bl (eB (ps.any fun p => decide (4 ≤ p.ty))) = [endC ps] := by
  unfold eB endC; split <;> rfl

theorem row_one {w : World} {B : Nat} {v : Value} {L : List ByteArray} {d : List UInt8} (h : StrRow w B v L) (hl : L.map bl = [d]) : ∃ D g c, L = [D] ∧ bl D = d ∧ v = .slice (some ⟨g, 0, none⟩) 1 c ∧ w.cell? ⟨g, 0, none⟩ = some (.string D) ∧ B ≤ g ∧ g < w.heap.size := by
  cases L with
  | nil => simp at hl
  | cons D r =>
    cases r with
    | cons x r => simp at hl
    | nil =>
      simp only [List.map_cons, List.map_nil, List.cons.injEq, and_true] at hl
      rcases h.2 with ⟨_, h0⟩ | ⟨g, c, cur, hv, hg, hh, _⟩
      · simp at h0
      · have hc := h.cells (g := g) (by rw [hv]; rfl) 0 (.string D) rfl
        rw [add0] at hc
        exact ⟨D, g, c, rfl, hl, hv, hc, hg, lt_of_block hh⟩

theorem row_some {w : World} {B : Nat} {v : Value} {L : List ByteArray} (h : StrRow w B v L) (hl : 0 < L.length) : ∃ g c, v = .slice (some ⟨g, 0, none⟩) L.length c ∧ B ≤ g ∧ g < w.heap.size ∧ ∀ i (hi : i < L.length), w.cell? ⟨g, 0 + i, none⟩ = some (.string L[i]) := by
  rcases h.2 with ⟨_, h0⟩ | ⟨g, c, cur, hv, hg, hh, _⟩
  · omega
  · refine ⟨g, c, hv, hg, lt_of_block hh, fun i hi => ?_⟩
    have hc := h.cells (g := g) (by rw [hv]; rfl) i (.string L[i]) (by rw [List.getElem?_map, List.getElem?_eq_getElem hi]; rfl)
    rwa [add0] at hc
end Go.Proofs.YtgkiknfpcbcnnabGreat

namespace Go.Proofs.YtgkiknfpcbcnnabGreat
open Go.RowKit
set_option maxRecDepth 20000

/-- What Cubes answers. -/
def cbE (s : ByteArray) : Int := if (decS s).isSome then (if nS (dS s) ≤ 256 then 0 else 4) else 1
def cbL (s : ByteArray) : List (List UInt8) := if (decS s).isSome && decide (nS (dS s) ≤ 256) then cubS (dS s) else []
def CubPost (s : ByteArray) (B : Nat) (e : Ending) (w' : World) : Prop :=
  ∃ (v : Value) (L : List ByteArray), e = .returned (.tuple #[v, .int .i64 (cbE s)]) ∧ StrRow w' B v L ∧ L.map bl = cbL s

theorem CubPost.mk {s : ByteArray} {B : Nat} {w' : World} {v : Value} {L : List ByteArray} {x : Int} (hx : Hid (cbE s = x)) (hr : StrRow w' B v L) (hl : L.map bl = cbL s) : CubPost s B (.returned (.tuple #[v, .int .i64 x])) w' :=
  ⟨v, L, by rw [hx.out], hr, hl⟩

theorem mem_dS (s : ByteArray) : ∀ p ∈ dS s, isP p = true := by
  intro p hp
  obtain ⟨j, hj, rfl⟩ := List.getElem_of_mem hp
  exact isP_dS s j hj

theorem sizes {L : List ByteArray} {M : List (List UInt8)} {n : Nat} (h : L.map bl = M) (hw : ∀ b ∈ M, b.length = n) : ∀ i (hi : i < L.length), L[i].size = n := by
  intro i hi
  rw [← bl_len]
  refine hw _ ?_
  rw [← h]
  exact List.mem_map_of_mem (List.getElem_mem hi)

theorem getD_bl {L : List ByteArray} {M : List (List UInt8)} (h : L.map bl = M) (i : Nat) (hi : i < L.length) : M.getD i [] = bl L[i] := by
  rw [← h, List.getD_eq_getElem?_getD, List.getElem?_map, List.getElem?_eq_getElem hi]
  rfl

theorem row_some' {w : World} {B : Nat} {ao : Option Addr} {c : Nat} {L : List ByteArray} (h : StrRow w B (.slice ao L.length c) L) (hl : 0 < L.length) : ∃ g, ao = some ⟨g, 0, none⟩ ∧ g < w.heap.size ∧ ∀ i (hi : i < L.length), w.cell? ⟨g, i, none⟩ = some (.string L[i]) := by
  obtain ⟨g, c', hv, _, hg, hc⟩ := row_some h hl
  simp only [Value.slice.injEq] at hv
  exact ⟨g, hv.1, hg, fun i hi => by have := hc i hi; rwa [Nat.zero_add] at this⟩

theorem cube_facts (L3 L4 L5 : List ByteArray) (i N : Nat) (hN : N = L3.length * L4.length * L5.length) (hi : i < N) (h256 : N ≤ 256) (b4 : L4.length ≤ 65536) (b5 : L5.length ≤ 256) :
    0 < L3.length ∧ 0 < L4.length ∧ 0 < L5.length ∧ L4.length * L5.length ≤ 16777216 ∧ ∃ X Y Z T : Nat, ∃ (_ : X < L3.length) (_ : Y < L4.length) (_ : Z < L5.length), Hid (X = i / (L4.length * L5.length)) ∧ Hid (Y = i / L5.length % L4.length) ∧ Hid (Z = i % L5.length) ∧
      (i : Int) / ((L4.length : Int) * (L5.length : Int)) = (X : Int) ∧ (i : Int) / (L5.length : Int) = (T : Int) ∧ (i : Int) % (L5.length : Int) = (Z : Int) ∧ (T : Int).tmod (L4.length : Int) = (Y : Int) ∧ wrap64 (T : Int) = (T : Int) ∧ wrap64 (X : Int) = (X : Int) ∧
      (X : Int) < (L3.length : Int) ∧ (Y : Int) < (L4.length : Int) ∧ (Z : Int) < (L5.length : Int) := by
  have h0 : 0 < L3.length * L4.length * L5.length := by omega
  have p5 := Nat.pos_of_mul_pos_left h0
  have h34 := Nat.pos_of_mul_pos_right h0
  have p3 := Nat.pos_of_mul_pos_right h34
  have p4 := Nat.pos_of_mul_pos_left h34
  have p45 : 0 < L4.length * L5.length := Nat.mul_pos p4 p5
  have x3 : i / (L4.length * L5.length) < L3.length := by rw [Nat.div_lt_iff_lt_mul p45, ← Nat.mul_assoc, ← hN]; exact hi
  have x4 : i / L5.length % L4.length < L4.length := Nat.mod_lt _ p4
  have x5 : i % L5.length < L5.length := Nat.mod_lt _ p5
  have bb : L4.length * L5.length ≤ 16777216 := by have := Nat.mul_le_mul b4 b5; omega
  have qT : i / L5.length ≤ i := Nat.div_le_self _ _
  have qX : i / (L4.length * L5.length) ≤ i := Nat.div_le_self _ _
  refine ⟨p3, p4, p5, bb, _, _, _, i / L5.length, x3, x4, x5, rfl, rfl, rfl, ?_, ?_, ?_, ?_, ?_, ?_, ?_, ?_, ?_⟩
  · rw [← Int.natCast_mul, ← Int.natCast_ediv]
  · rw [← Int.natCast_ediv]
  · rw [← Int.natCast_emod]
  · rw [Int.tmod_eq_emod_of_nonneg (Int.natCast_nonneg _), ← Int.natCast_emod]
  · generalize i / L5.length = T at *; exact IntWalk.wrap64_in _ ⟨by omega, by omega⟩
  · generalize i / (L4.length * L5.length) = T at *; exact IntWalk.wrap64_in _ ⟨by omega, by omega⟩
  · exact Int.ofNat_lt.2 x3
  · exact Int.ofNat_lt.2 x4
  · exact Int.ofNat_lt.2 x5

end Go.Proofs.YtgkiknfpcbcnnabGreat
