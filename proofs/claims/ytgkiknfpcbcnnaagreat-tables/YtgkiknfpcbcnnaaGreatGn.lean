import Derived.Test.YtgkiknfpcbcnnaaGreatGm
import Derived.Test.YtgkiknfpcbcnnaaGreatGh
import Derived.Deep.RegionHeldLaw
import Derived.Deep.AppendLies
namespace Go.Proofs.YtgkiknfpcbcnnaaGreat
open Go.RowKit
set_option maxRecDepth 20000
theorem blkP_len (p : Pt) : (blkP p).length ≤ 2 ^ wOf p.ty := by
  unfold blkP
  split
  · simp; exact Nat.one_le_two_pow
  · exact covS_len _ _ _ _
theorem blkS_len (k : Int) : ∀ ps, (blkS k ps).length ≤ 2 ^ wOf k := by
  intro ps
  induction ps with
  | nil => simp [blkS]; exact Nat.one_le_two_pow
  | cons p r ih =>
    simp only [blkS]
    split
    · rename_i h; rw [← h]; exact blkP_len p
    · exact ih
def nS (ps : List Pt) : Nat := (blkS 3 ps).length * (blkS 4 ps).length * (blkS 5 ps).length
theorem lens (ps : List Pt) : (blkS 3 ps).length ≤ 256 ∧ (blkS 4 ps).length ≤ 65536 ∧ (blkS 5 ps).length ≤ 256 := ⟨blkS_len 3 ps, blkS_len 4 ps, blkS_len 5 ps⟩
def ctC (s : ByteArray) : Nat := if (decS s).isSome then nS (dS s) else 0
theorem isP_dS (s : ByteArray) : ∀ j (h : j < (dS s).length), isP (dS s)[j] = true := by
  unfold dS
  cases h : decS s with
  | none => intro j hj; simp at hj
  | some ps =>
    have hR := (decS_sound s ps h).1
    unfold isR at hR
    simp only [Bool.and_eq_true] at hR
    exact allP_get ps 0 hR.1
theorem eS_no {s : ByteArray} (h : (decS s).isSome = false) : eS s = 1 := by unfold eS; simp [h]
theorem eS_yes {s : ByteArray} (h : (decS s).isSome = true) : eS s = 0 := by unfold eS; simp [h]
theorem mul_bd {a b c : Nat} (ha : a ≤ 256) (hb : b ≤ 65536) (hc : c ≤ 256) : a * b ≤ 16777216 ∧ a * b * c ≤ 4294967296 := by
  have h1 : a * b ≤ 256 * 65536 := Nat.mul_le_mul ha hb
  have h2 : a * b * c ≤ 256 * 65536 * 256 := Nat.mul_le_mul h1 hc
  omega
set_option maxHeartbeats 1000000 in
theorem refCount_any (s : ByteArray) (w : World) (hs : s.size ≤ 140737488351232) :
    Calls Tryz.prog 54 #[.string s] w fun e w' => e = .returned (.tuple #[.int .i64 (ctC s), .int .i64 (eS s)]) ∧ Below w.heap.size w w' := by
  obtain ⟨d5, dts⟩ := dS_small s
  have HP : Hid (∀ j (h : j < (dS s).length), isP (dS s)[j] = true) := isP_dS s
  unfold ctC
  cases h1 : (decS s).isSome
  · simp only [Bool.false_eq_true, if_false]
    have e1 := eS_no h1
    clear h1
    rw [e1]
    go_enter Tryz.func54, Tryz.ntmps54
    go_wp2_with fail
    refine (ref2 s _ hs).mono ?_
    rintro e w1 ⟨hb1, ao, cap, qs, rfl, hq, hr⟩
    rw [e1]
    go_wp2
    go_ret2
    exact ⟨rfl, hb1.alloc hb1.size _⟩
  · simp only [if_true]
    have e1 := eS_yes h1
    clear h1
    rw [e1]
    go_enter Tryz.func54, Tryz.ntmps54
    go_wp2_with fail
    refine (ref2 s _ hs).mono ?_
    rintro e w1 ⟨hb1, ao, cap, qs, rfl, hq, hr⟩
    rw [e1]
    have hp1 := hr.reads2 hq rfl dts
    clear hq hr dts
    have z1 := hb1.size
    have hpA := hp1.below (below_alloc w1 (.cells #[.slice ao (dS s).length cap] 114))
    go_wp2_with fail
    refine (blocks_3 (dS s) ao cap _ d5 HP.out hpA).mono ?_
    rintro e w2 ⟨⟨v3, L3, rfl, hr3, hl3⟩, hb2⟩
    obtain ⟨o3, c3, rfl⟩ := ownsRow_shape hr3
    have r2 : w2.cell? ⟨w1.heap.size, 0, none⟩ = some (.slice ao (dS s).length cap) := (hb2.cell (by simp)).trans (by simp [go_sem])
    have hw2 := below_first hb2
    have hpB := hp1.below hw2
    have z2 := hb2.size
    simp only [World.size_alloc] at z2
    go_wp2_with fail
    refine (blocks_4 (dS s) ao cap _ d5 HP.out hpB).mono ?_
    rintro e w3 ⟨⟨v4, L4, rfl, hr4, hl4⟩, hb3⟩
    obtain ⟨o4, c4, rfl⟩ := ownsRow_shape hr4
    have r3 := (hb3.cell (p := ⟨w1.heap.size, 0, none⟩) (by exact z2)).trans r2
    have hpC := hpB.below hb3
    have z3 := hb3.size
    go_wp2_with fail
    refine (blocks_5 (dS s) ao cap _ d5 HP.out hpC).mono ?_
    rintro e w4 ⟨⟨v5, L5, rfl, hr5, hl5⟩, hb4⟩
    obtain ⟨o5, c5, rfl⟩ := ownsRow_shape hr5
    have hB : Below w.heap.size w w4 := hb1.trans ((hw2.trans ((hb3.trans (hb4.mono z3)).mono (by omega))).mono z1)
    have n3 : (blkS 3 (dS s)).length = L3.length := by rw [← hl3, List.length_map]
    have n4 : (blkS 4 (dS s)).length = L4.length := by rw [← hl4, List.length_map]
    have n5 : (blkS 5 (dS s)).length = L5.length := by rw [← hl5, List.length_map]
    obtain ⟨b3, b4, b5⟩ := lens (dS s)
    rw [n3] at b3
    rw [n4] at b4
    rw [n5] at b5
    have HN : Hid (nS (dS s) = L3.length * L4.length * L5.length) := by show _ = _; unfold nS; rw [n3, n4, n5]
    obtain ⟨m1, m2⟩ := mul_bd b3 b4 b5
    have X : Hid (wrap64 ((L3.length : Int) * (L4.length : Int) * (L5.length : Int)) = ((L3.length * L4.length * L5.length : Nat) : Int)) := by
      show _ = _
      rw [← Int.natCast_mul, ← Int.natCast_mul]
      exact IntWalk.wrap64_in _ ⟨by omega, by omega⟩
    clear n3 n4 n5 hl3 hl4 hl5 hr3 hr4 hr5
    go_wp2
    go_ret2
    refine ⟨?_, hB⟩
    rw [HN.out, ← X.out]
    rfl
end Go.Proofs.YtgkiknfpcbcnnaaGreat
namespace Go.Proofs.YtgkiknfpcbcnnaaGreat
open Go.RowKit
set_option maxRecDepth 20000
theorem range_pairs {α β γ : Type} [Inhabited α] [Inhabited β] (f : α → β → γ) (B : List β) : ∀ A : List α, (List.range (A.length * B.length)).map (fun i => f (A.getD (i / B.length) default) (B.getD (i % B.length) default)) = A.flatMap fun a => B.map (f a) := by
  intro A
  induction A with
  | nil => simp
  | cons a A ih =>
    rw [List.flatMap_cons, ← ih]
    have e : (a :: A).length * B.length = B.length + A.length * B.length := by rw [List.length_cons, Nat.add_mul, Nat.one_mul, Nat.add_comm]
    rw [e, List.range_add, List.map_append, List.map_map]
    congr 1
    · apply List.ext_getElem
      · simp
      · intro i h1 h2
        simp only [List.getElem_map, List.getElem_range]
        have hi : i < B.length := by simpa using h2
        rw [Nat.div_eq_of_lt hi, Nat.mod_eq_of_lt hi]
        simp [List.getD_eq_getElem?_getD, List.getElem?_eq_getElem hi]
    · apply List.map_congr_left
      intro i hi
      have hB : 0 < B.length := by
        rcases Nat.eq_zero_or_pos B.length with h | h
        · rw [h, Nat.mul_zero] at hi; simp at hi
        · exact h
      show f ((a :: A).getD ((B.length + i) / B.length) default) (B.getD ((B.length + i) % B.length) default) = _
      rw [Nat.add_div_left _ hB, Nat.add_mod_left]
      rfl
def endC (ps : List Pt) : UInt8 := if ps.any (fun p => decide (4 ≤ p.ty)) then 48 else 42
def cubS (ps : List Pt) : List (List UInt8) := (blkS 3 ps).flatMap fun a => (blkS 4 ps).flatMap fun b => (blkS 5 ps).map fun c => ((blkS 1 ps).headD [] ++ (blkS 2 ps).headD []) ++ a ++ b ++ c ++ [endC ps]
theorem cubS_range (ps : List Pt) : cubS ps = (List.range (nS ps)).map fun i => ((blkS 1 ps).headD [] ++ (blkS 2 ps).headD []) ++ (blkS 3 ps).getD (i / ((blkS 4 ps).length * (blkS 5 ps).length)) [] ++ (blkS 4 ps).getD (i / (blkS 5 ps).length % (blkS 4 ps).length) [] ++ (blkS 5 ps).getD (i % (blkS 5 ps).length) [] ++ [endC ps] := by
  unfold cubS nS
  generalize (blkS 1 ps).headD [] ++ (blkS 2 ps).headD [] = pre
  generalize blkS 3 ps = A
  generalize blkS 4 ps = B
  generalize blkS 5 ps = C
  generalize [endC ps] = z
  have h1 : ∀ a : List UInt8, (B.flatMap fun b => C.map fun c => pre ++ a ++ b ++ c ++ z) = (List.range (B.length * C.length)).map fun i => pre ++ a ++ B.getD (i / C.length) [] ++ C.getD (i % C.length) [] ++ z := fun a =>
    (range_pairs (fun b c => pre ++ a ++ b ++ c ++ z) C B).symm
  have h2 : (A.flatMap fun a => B.flatMap fun b => C.map fun c => pre ++ a ++ b ++ c ++ z) = A.flatMap fun a => (List.range (B.length * C.length)).map fun i => pre ++ a ++ B.getD (i / C.length) [] ++ C.getD (i % C.length) [] ++ z := by
    congr 1
    funext a
    exact h1 a
  rw [h2]
  have h3 := range_pairs (fun (a : List UInt8) (i : Nat) => pre ++ a ++ B.getD (i / C.length) [] ++ C.getD (i % C.length) [] ++ z) (List.range (B.length * C.length)) A
  rw [← h3, List.length_range, Nat.mul_assoc]
  apply List.map_congr_left
  intro i hi
  have hpos : 0 < B.length * C.length := by
    rcases Nat.eq_zero_or_pos (B.length * C.length) with h | h
    · rw [h, Nat.mul_zero] at hi; simp at hi
    · exact h
  have hm : i % (B.length * C.length) < B.length * C.length := Nat.mod_lt _ hpos
  have e0 : (List.range (B.length * C.length)).getD (i % (B.length * C.length)) default = i % (B.length * C.length) := by
    rw [List.getD_eq_getElem?_getD, List.getElem?_range hm]
    rfl
  rw [e0]
  have e1 : i % (B.length * C.length) / C.length = i / C.length % B.length := by
    rw [Nat.mul_comm, Nat.mod_mul_right_div_self]
  have e2 : i % (B.length * C.length) % C.length = i % C.length := Nat.mod_mul_left_mod i B.length C.length
  rw [e1, e2]
  rfl
theorem blkP_w {p : Pt} (hp : isP p = true) : ∀ b ∈ blkP p, b.length = wOf p.ty := by
  intro b hb
  unfold blkP at hb
  split at hb
  · rename_i h
    obtain ⟨o1, o2, _⟩ := prefOK_bd (isP_pref hp h).2
    simp only [List.mem_singleton] at hb
    have hk := hasP_bd h
    have hw : wOf p.ty = 16 := by unfold wOf; rw [if_neg (by omega)]
    rw [hb, hw, List.length_append, binL_len, List.length_replicate]
    omega
  · obtain ⟨r, rfl, hr⟩ := covS_pre _ _ _ _ b hb
    simpa using hr
theorem blkS_w (k : Int) : ∀ ps : List Pt, (∀ p ∈ ps, isP p = true) → ∀ b ∈ blkS k ps, b.length = wOf k := by
  intro ps
  induction ps with
  | nil => intro _ b hb; simp only [blkS, List.mem_singleton] at hb; rw [hb]; simp
  | cons p r ih =>
    intro h b hb
    simp only [blkS] at hb
    split at hb
    · rename_i he; rw [← he]; exact blkP_w (h p (by simp)) b hb
    · exact ih (fun x hx => h x (by simp [hx])) b hb
theorem blkS_one (k : Int) (hk : k = 1 ∨ k = 2) : ∀ ps, ∃ d, blkS k ps = [d] := by
  intro ps
  induction ps with
  | nil => exact ⟨_, rfl⟩
  | cons p r ih =>
    simp only [blkS]
    split
    · rename_i h
      unfold blkP
      have : hasP p.ty = true := by rw [h]; rcases hk with rfl | rfl <;> rfl
      rw [if_pos this]
      exact ⟨_, rfl⟩
    · exact ih
def eB (b : Bool) : ByteArray := if b then ⟨#[48]⟩ else ⟨#[42]⟩
theorem eB_size (b : Bool) : (eB b).size = 1 := by cases b <;> rfl
theorem bl_eB (ps : List Pt) : bl (eB (ps.any fun p => decide (4 ≤ p.ty))) = [endC ps] := by
  unfold eB endC; split <;> rfl
theorem row_one {w : World} {B : Nat} {v : Value} {L : List ByteArray} {d : List UInt8} (h : StrRow w B v L) (hl : L.map bl = [d]) : ∃ D g c, L = [D] ∧ bl D = d ∧ v = .slice (some ⟨g, 0, none⟩) 1 c ∧ w.cell? ⟨g, 0, none⟩ = some (.string D) ∧ B ≤ g ∧ g < w.heap.size := by
  cases L with
  | nil => simp at hl
  | cons D r =>
    cases r with
    | cons x r => simp at hl
    | nil =>
      simp only [List.map_cons, List.map_nil, List.cons.injEq, and_true] at hl
      rcases h.2 with ⟨_, h0⟩ | ⟨g, c, cur, hv, hg, hh, _⟩
      · simp at h0
      · have hc := h.cells (g := g) (by rw [hv]; rfl) 0 (.string D) rfl
        rw [add0] at hc
        exact ⟨D, g, c, rfl, hl, hv, hc, hg, lt_of_block hh⟩
theorem row_some {w : World} {B : Nat} {v : Value} {L : List ByteArray} (h : StrRow w B v L) (hl : 0 < L.length) : ∃ g c, v = .slice (some ⟨g, 0, none⟩) L.length c ∧ B ≤ g ∧ g < w.heap.size ∧ ∀ i (hi : i < L.length), w.cell? ⟨g, 0 + i, none⟩ = some (.string L[i]) := by
  rcases h.2 with ⟨_, h0⟩ | ⟨g, c, cur, hv, hg, hh, _⟩
  · omega
  · refine ⟨g, c, hv, hg, lt_of_block hh, fun i hi => ?_⟩
    have hc := h.cells (g := g) (by rw [hv]; rfl) i (.string L[i]) (by rw [List.getElem?_map, List.getElem?_eq_getElem hi]; rfl)
    rwa [add0] at hc
end Go.Proofs.YtgkiknfpcbcnnaaGreat
namespace Go.Proofs.YtgkiknfpcbcnnaaGreat
open Go.RowKit
set_option maxRecDepth 20000
def cbE (s : ByteArray) : Int := if (decS s).isSome then (if nS (dS s) ≤ 256 then 0 else 4) else 1
def cbL (s : ByteArray) : List (List UInt8) := if (decS s).isSome && decide (nS (dS s) ≤ 256) then cubS (dS s) else []
def CubPost (s : ByteArray) (B : Nat) (e : Ending) (w' : World) : Prop :=
  ∃ (v : Value) (L : List ByteArray), e = .returned (.tuple #[v, .int .i64 (cbE s)]) ∧ StrRow w' B v L ∧ L.map bl = cbL s
theorem CubPost.mk {s : ByteArray} {B : Nat} {w' : World} {v : Value} {L : List ByteArray} {x : Int} (hx : Hid (cbE s = x)) (hr : StrRow w' B v L) (hl : L.map bl = cbL s) : CubPost s B (.returned (.tuple #[v, .int .i64 x])) w' :=
  ⟨v, L, by rw [hx.out], hr, hl⟩
theorem mem_dS (s : ByteArray) : ∀ p ∈ dS s, isP p = true := by
  intro p hp
  obtain ⟨j, hj, rfl⟩ := List.getElem_of_mem hp
  exact isP_dS s j hj
theorem sizes {L : List ByteArray} {M : List (List UInt8)} {n : Nat} (h : L.map bl = M) (hw : ∀ b ∈ M, b.length = n) : ∀ i (hi : i < L.length), L[i].size = n := by
  intro i hi
  rw [← bl_len]
  refine hw _ ?_
  rw [← h]
  exact List.mem_map_of_mem (List.getElem_mem hi)
theorem getD_bl {L : List ByteArray} {M : List (List UInt8)} (h : L.map bl = M) (i : Nat) (hi : i < L.length) : M.getD i [] = bl L[i] := by
  rw [← h, List.getD_eq_getElem?_getD, List.getElem?_map, List.getElem?_eq_getElem hi]
  rfl
theorem row_some' {w : World} {B : Nat} {ao : Option Addr} {c : Nat} {L : List ByteArray} (h : StrRow w B (.slice ao L.length c) L) (hl : 0 < L.length) : ∃ g, ao = some ⟨g, 0, none⟩ ∧ g < w.heap.size ∧ ∀ i (hi : i < L.length), w.cell? ⟨g, i, none⟩ = some (.string L[i]) := by
  obtain ⟨g, c', hv, _, hg, hc⟩ := row_some h hl
  simp only [Value.slice.injEq] at hv
  exact ⟨g, hv.1, hg, fun i hi => by have := hc i hi; rwa [Nat.zero_add] at this⟩
theorem cube_facts (L3 L4 L5 : List ByteArray) (i N : Nat) (hN : N = L3.length * L4.length * L5.length) (hi : i < N) (h256 : N ≤ 256) (b4 : L4.length ≤ 65536) (b5 : L5.length ≤ 256) :
    0 < L3.length ∧ 0 < L4.length ∧ 0 < L5.length ∧ L4.length * L5.length ≤ 16777216 ∧ ∃ X Y Z T : Nat, ∃ (_ : X < L3.length) (_ : Y < L4.length) (_ : Z < L5.length), Hid (X = i / (L4.length * L5.length)) ∧ Hid (Y = i / L5.length % L4.length) ∧ Hid (Z = i % L5.length) ∧
      (i : Int) / ((L4.length : Int) * (L5.length : Int)) = (X : Int) ∧ (i : Int) / (L5.length : Int) = (T : Int) ∧ (i : Int) % (L5.length : Int) = (Z : Int) ∧ (T : Int).tmod (L4.length : Int) = (Y : Int) ∧ wrap64 (T : Int) = (T : Int) ∧ wrap64 (X : Int) = (X : Int) ∧
      (X : Int) < (L3.length : Int) ∧ (Y : Int) < (L4.length : Int) ∧ (Z : Int) < (L5.length : Int) := by
  have h0 : 0 < L3.length * L4.length * L5.length := by omega
  have p5 := Nat.pos_of_mul_pos_left h0
  have h34 := Nat.pos_of_mul_pos_right h0
  have p3 := Nat.pos_of_mul_pos_right h34
  have p4 := Nat.pos_of_mul_pos_left h34
  have p45 : 0 < L4.length * L5.length := Nat.mul_pos p4 p5
  have x3 : i / (L4.length * L5.length) < L3.length := by rw [Nat.div_lt_iff_lt_mul p45, ← Nat.mul_assoc, ← hN]; exact hi
  have x4 : i / L5.length % L4.length < L4.length := Nat.mod_lt _ p4
  have x5 : i % L5.length < L5.length := Nat.mod_lt _ p5
  have bb : L4.length * L5.length ≤ 16777216 := by have := Nat.mul_le_mul b4 b5; omega
  have qT : i / L5.length ≤ i := Nat.div_le_self _ _
  have qX : i / (L4.length * L5.length) ≤ i := Nat.div_le_self _ _
  refine ⟨p3, p4, p5, bb, _, _, _, i / L5.length, x3, x4, x5, rfl, rfl, rfl, ?_, ?_, ?_, ?_, ?_, ?_, ?_, ?_, ?_⟩
  · rw [← Int.natCast_mul, ← Int.natCast_ediv]
  · rw [← Int.natCast_ediv]
  · rw [← Int.natCast_emod]
  · rw [Int.tmod_eq_emod_of_nonneg (Int.natCast_nonneg _), ← Int.natCast_emod]
  · generalize i / L5.length = T at *; exact IntWalk.wrap64_in _ ⟨by omega, by omega⟩
  · generalize i / (L4.length * L5.length) = T at *; exact IntWalk.wrap64_in _ ⟨by omega, by omega⟩
  · exact Int.ofNat_lt.2 x3
  · exact Int.ofNat_lt.2 x4
  · exact Int.ofNat_lt.2 x5
set_option maxHeartbeats 1000000 in
theorem refCubes_any (s : ByteArray) (w : World) (hs : s.size ≤ 140737488351232) :
    Calls Tryz.prog 55 #[.string s] w fun e w' => CubPost s w.heap.size e w' ∧ Below w.heap.size w w' := by
  obtain ⟨d5, dts⟩ := dS_small s
  obtain ⟨i0, hi, hz0, hz1, hz2⟩ := info_parts infoStr
  have HP : Hid (∀ j (h : j < (dS s).length), isP (dS s)[j] = true) := isP_dS s
  have hct : ctC s = if (decS s).isSome then nS (dS s) else 0 := rfl
  cases h1 : (decS s).isSome
  · have HE : Hid (cbE s = 1) := by show cbE s = 1; unfold cbE; rw [h1]; rfl
    have HL : Hid (cbL s = []) := by show cbL s = []; unfold cbL; rw [h1]; rfl
    have e1 := eS_no h1
    clear h1 hct
    go_enter Tryz.func55, Tryz.ntmps55
    go_wp2_with fail
    refine (refCount_any s _ hs).mono ?_
    rintro e w1 ⟨rfl, hb1⟩
    rw [e1]
    go_wp2
    go_ret2
    exact ⟨CubPost.mk (L := []) HE (StrRow.nil _ _) HL.out.symm, hb1⟩
  · have hsm := h1
    have e1 := eS_yes h1
    rw [h1] at hct
    simp only [if_true] at hct
    clear h1
    by_cases h256 : nS (dS s) ≤ 256
    · have HE : Hid (cbE s = 0) := by show cbE s = 0; unfold cbE; rw [hsm, if_pos h256]; rfl
      have HL : Hid (cbL s = cubS (dS s)) := by show cbL s = _; unfold cbL; rw [hsm]; simp [h256]
      clear hsm
      have hC := cubS_range (dS s)
      have HC : Hid (cubS (dS s) = (List.range (nS (dS s))).map fun i => ((blkS 1 (dS s)).headD [] ++ (blkS 2 (dS s)).headD []) ++ (blkS 3 (dS s)).getD (i / ((blkS 4 (dS s)).length * (blkS 5 (dS s)).length)) [] ++ (blkS 4 (dS s)).getD (i / (blkS 5 (dS s)).length % (blkS 4 (dS s)).length) [] ++ (blkS 5 (dS s)).getD (i % (blkS 5 (dS s)).length) [] ++ [endC (dS s)]) := hC
      have HA : Hid ((dS s).any (fun p => decide (4 ≤ p.ty)) = (false || ((dS s).drop 0).any (fun p => decide (4 ≤ p.ty)))) := by show _ = _; simp
      clear hC
      go_enter Tryz.func55, Tryz.ntmps55
      go_wp2_with fail
      refine (refCount_any s _ hs).mono ?_
      rintro e w1 ⟨rfl, hb1⟩
      rw [e1, hct]
      have hn : (nS (dS s) : Int) ≤ 256 := by omega
      generalize hnn : nS (dS s) = N at *
      go_wp2_with fail
      refine (ref2 s _ hs).mono ?_
      rintro e w2 ⟨hb2, ao, cap, qs, rfl, hq, hr⟩
      have hp2 := hr.reads2 hq rfl dts
      clear hq hr dts
      have z1 := hb1.size
      have z2 := hb2.size
      have hB2 : Below w.heap.size w w2 := hb1.trans (hb2.mono z1)
      go_wp2_with fail
      go_loop [8, 9] (fun x i => ∃ (j : Nat) (b : Bool), j ≤ (dS s).length ∧ x = .string (eB b) ∧ i = .int .i64 j ∧ Hid ((dS s).any (fun p => decide (4 ≤ p.ty)) = (b || ((dS s).drop j).any (fun p => decide (4 ≤ p.ty))))) (fun _ i => (dS s).length - (intOf i).toNat)
      case atStart => exact ⟨0, false, Nat.zero_le _, rfl, rfl, HA⟩
      case round =>
        obtain ⟨j, b, hj, rfl, rfl, H⟩ := hrel
        clear HA
        by_cases hlt : j < (dS s).length
        · obtain ⟨bk, off, tao, tcap, rfl, c0, c1, c2, c3, hl, ht⟩ := hp2.below (below_alloc w2 (.cells #[.slice ao (dS s).length cap] 114)) j hlt
          have hd : (dS s).drop j = (dS s)[j] :: (dS s).drop (j + 1) := List.drop_eq_getElem_cons hlt
          rw [hd] at H
          clear hd hp2 c1 c2 c3 hl ht
          generalize (dS s)[j] = p at *
          by_cases h4 : 4 ≤ p.ty
          · have HN : Hid ((dS s).any (fun p => decide (4 ≤ p.ty)) = (true || ((dS s).drop (j + 1)).any (fun p => decide (4 ≤ p.ty)))) := by show _ = _; rw [H.out]; simp [h4]
            clear H
            have d4 : decide (4 ≤ p.ty) = true := by simpa using h4
            go_wp2
            go_round
            case rel => exact ⟨j + 1, true, by omega, rfl, by go_num, HN⟩
            case measure => simp [intOf]; omega
          · have HN : Hid ((dS s).any (fun p => decide (4 ≤ p.ty)) = (b || ((dS s).drop (j + 1)).any (fun p => decide (4 ≤ p.ty)))) := by show _ = _; rw [H.out]; simp [h4]
            clear H
            have d4 : decide (4 ≤ p.ty) = false := by simpa using h4
            go_wp2
            go_round
            case rel => exact ⟨j + 1, b, by omega, rfl, by go_num, HN⟩
            case measure => simp [intOf]; omega
        · have HB : Hid ((dS s).any (fun p => decide (4 ≤ p.ty)) = b) := by show _ = _; rw [H.out, List.drop_of_length_le (by omega)]; simp
          clear H hj
          have hpA := hp2.below (below_alloc w2 (.cells #[.slice ao (dS s).length cap] 114))
          go_wp2_with fail
          clear hlt
          refine (blocks_1 (dS s) ao cap _ d5 HP.out hpA).mono ?_
          rintro e w3 ⟨⟨v1, L1, rfl, hr1, hl1⟩, hb3⟩
          have r3 : w3.cell? ⟨w2.heap.size, 0, none⟩ = some (.slice ao (dS s).length cap) := (hb3.cell (by simp)).trans (by simp [go_sem])
          have hw3 := below_first hb3
          have hp3 := hp2.below hw3
          have z3 := hb3.size
          simp only [World.size_alloc] at z3
          obtain ⟨q1, t1, rfl⟩ := ownsRow_shape hr1
          go_wp2_with fail
          refine (blocks_2 (dS s) ao cap _ d5 HP.out hp3).mono ?_
          rintro e w4 ⟨⟨v2, L2, rfl, hr2, hl2⟩, hb4⟩
          have r4 := (hb4.cell (p := ⟨w2.heap.size, 0, none⟩) (by exact z3)).trans r3
          have hp4 := hp3.below hb4
          have z4 := hb4.size
          obtain ⟨q2, t2, rfl⟩ := ownsRow_shape hr2
          go_wp2_with fail
          refine (blocks_3 (dS s) ao cap _ d5 HP.out hp4).mono ?_
          rintro e w5 ⟨⟨v3, L3, rfl, hr3, hl3⟩, hb5⟩
          have r5 := (hb5.cell (p := ⟨w2.heap.size, 0, none⟩) (by show w2.heap.size < w4.heap.size; omega)).trans r4
          have hp5 := hp4.below hb5
          have z5 := hb5.size
          obtain ⟨q3, t3, rfl⟩ := ownsRow_shape hr3
          go_wp2_with fail
          refine (blocks_4 (dS s) ao cap _ d5 HP.out hp5).mono ?_
          rintro e w6 ⟨⟨v4, L4, rfl, hr4, hl4⟩, hb6⟩
          have r6 := (hb6.cell (p := ⟨w2.heap.size, 0, none⟩) (by show w2.heap.size < w5.heap.size; omega)).trans r5
          have hp6 := hp5.below hb6
          have z6 := hb6.size
          obtain ⟨q4, t4, rfl⟩ := ownsRow_shape hr4
          go_wp2_with fail
          refine (blocks_5 (dS s) ao cap _ d5 HP.out hp6).mono ?_
          rintro e w7 ⟨⟨v5, L5, rfl, hr5, hl5⟩, hb7⟩
          have z7 := hb7.size
          obtain ⟨q5, t5, rfl⟩ := ownsRow_shape hr5
          have g6 : Below w6.heap.size w6 w7 := hb7
          have g5 : Below w5.heap.size w5 w7 := hb6.trans (g6.mono z6)
          have g4 : Below w4.heap.size w4 w7 := hb5.trans (g5.mono z5)
          have g3 : Below w3.heap.size w3 w7 := hb4.trans (g4.mono z4)
          have hB7 : Below w.heap.size w w7 := hB2.trans ((hw3.trans (g3.mono (by omega))).mono (by omega))
          have m1 := hr1.below g3
          have m2 := hr2.below g4
          have m3 := hr3.below g5
          have m4 := hr4.below g6
          have m5 := hr5
          clear hr1 hr2 hr3 hr4 hr5 r3 r4 r5 r6 hp2 hp3 hp4 hp5 hp6 hpA hb3 hb4 hb5 hb6 hb7 g3 g4 g5 g6 hw3
          have b3 : L3.length ≤ 256 := by have := (lens (dS s)).1; rw [← hl3, List.length_map] at this; exact this
          have b4 : L4.length ≤ 65536 := by have := (lens (dS s)).2.1; rw [← hl4, List.length_map] at this; exact this
          have b5 : L5.length ≤ 256 := by have := (lens (dS s)).2.2; rw [← hl5, List.length_map] at this; exact this
          have HN : Hid (N = L3.length * L4.length * L5.length) := by show _ = _; rw [← hnn]; unfold nS; rw [← hl3, ← hl4, ← hl5, List.length_map, List.length_map, List.length_map]
          obtain ⟨u1, hu1⟩ := blkS_one 1 (.inl rfl) (dS s)
          obtain ⟨u2, hu2⟩ := blkS_one 2 (.inr rfl) (dS s)
          have y1 := sizes hl1 (blkS_w 1 (dS s) (mem_dS s))
          have y2 := sizes hl2 (blkS_w 2 (dS s) (mem_dS s))
          have y3 := sizes hl3 (blkS_w 3 (dS s) (mem_dS s))
          have y4 := sizes hl4 (blkS_w 4 (dS s) (mem_dS s))
          have y5 := sizes hl5 (blkS_w 5 (dS s) (mem_dS s))
          obtain ⟨D1, g1, k1, rfl, hD1, hv1, cD1, _, gl1⟩ := row_one m1 (hl1.trans hu1)
          obtain ⟨D2, g2, k2, rfl, hD2, hv2, cD2, _, gl2⟩ := row_one m2 (hl2.trans hu2)
          have zD1 : D1.size = 16 := y1 0 (by simp)
          have zD2 : D2.size = 16 := y2 0 (by simp)
          simp only [Value.slice.injEq] at hv1 hv2
          obtain ⟨rfl, _, rfl⟩ := hv1
          obtain ⟨rfl, _, rfl⟩ := hv2
          obtain ⟨cu, hcu⟩ : ∃ cu : Nat → List UInt8, cu = fun i => (bl D1 ++ bl D2) ++ (blkS 3 (dS s)).getD (i / (L4.length * L5.length)) [] ++ (blkS 4 (dS s)).getD (i / L5.length % L4.length) [] ++ (blkS 5 (dS s)).getD (i % L5.length) [] ++ [endC (dS s)] := ⟨_, rfl⟩
          have HQ : Hid (cbL s = (List.range N).map cu) := by
            show _ = _
            have := HC.out
            rw [hu1, hu2, ← hl4, ← hl5, List.length_map, List.length_map] at this
            rw [HL.out, this, hcu, hD1, hD2, hl4, hl5]
            rfl
          have HU : Hid (cu = fun i => (bl D1 ++ bl D2) ++ (blkS 3 (dS s)).getD (i / (L4.length * L5.length)) [] ++ (blkS 4 (dS s)).getD (i / L5.length % L4.length) [] ++ (blkS 5 (dS s)).getD (i % L5.length) [] ++ [endC (dS s)]) := hcu
          have HBE : Hid (bl (eB b) = [endC (dS s)]) := by show _ = _; rw [← HB.out]; exact bl_eB (dS s)
          have zE := eB_size b
          have H3 : Hid (L3.map bl = blkS 3 (dS s)) := hl3
          have H4 : Hid (L4.map bl = blkS 4 (dS s)) := hl4
          have H5 : Hid (L5.map bl = blkS 5 (dS s)) := hl5
          have Y3 : Hid (∀ i (hi : i < L3.length), L3[i].size = 8) := y3
          have Y4 : Hid (∀ i (hi : i < L4.length), L4[i].size = 16) := y4
          have Y5 : Hid (∀ i (hi : i < L5.length), L5[i].size = 8) := y5
          clear HC hl1 hl2 hl3 hl4 hl5 y1 y2 y3 y4 y5 m1 m2 hu1 hu2 hD1 hD2 hcu HB HL
          generalize eB b = E at *
          go_wp2_with fail
          go_loopw [15, 16] (fun o x wr => ∃ (i : Nat) (L : List ByteArray), x = .int .i64 i ∧ i ≤ N ∧ StrRow wr w7.heap.size o L ∧ Hid (L.map bl = (List.range i).map cu) ∧ Below w7.heap.size w7 wr) (fun _ x _ => N - (intOf x).toNat)
          case atStart => exact ⟨0, [], rfl, Nat.zero_le _, StrRow.nil _ _, rfl, Below.refl _ _⟩
          case round =>
            obtain ⟨i, L, rfl, hiN, hrow, HL, hbel⟩ := hrel
            obtain ⟨oo, oc, rfl⟩ := ownsRow_shape hrow
            by_cases hlt : i < N
            · obtain ⟨p3, p4, p5, bb, X, Y, Z, T, x3, x4, x5, hX, hY, hZ, q1, q2, q3', q5', q4', q6, i3, i4, i5⟩ := cube_facts L3 L4 L5 i N HN.out hlt h256 b4 b5
              obtain ⟨A3, rfl, gl3, cl3⟩ := row_some' m3 p3
              obtain ⟨A4, rfl, gl4, cl4⟩ := row_some' m4 p4
              obtain ⟨A5, rfl, gl5, cl5⟩ := row_some' m5 p5
              have HC : Hid (cu i = (bl D1 ++ bl D2) ++ bl (L3[X]'x3) ++ bl (L4[Y]'x4) ++ bl (L5[Z]'x5) ++ bl E) := by
                show _ = _
                rw [HU.out, HBE.out, ← getD_bl H3.out _ x3, ← getD_bl H4.out _ x4, ← getD_bl H5.out _ x5, hX.out, hY.out, hZ.out]
              have v3 := Y3.out _ x3
              have v4 := Y4.out _ x4
              have v5 := Y5.out _ x5
              have c3 := cl3 _ x3
              have c4 := cl4 _ x4
              have c5 := cl5 _ x5
              obtain ⟨P3, hP3⟩ : ∃ P3, L3[X]'x3 = P3 := ⟨_, rfl⟩
              obtain ⟨P4, hP4⟩ : ∃ P4, L4[Y]'x4 = P4 := ⟨_, rfl⟩
              obtain ⟨P5, hP5⟩ : ∃ P5, L5[Z]'x5 = P5 := ⟨_, rfl⟩
              rw [hP3] at HC v3 c3
              rw [hP4] at HC v4 c4
              rw [hP5] at HC v5 c5
              have hz := hbel.size
              have HS : Hid (∀ w' : World, Below w7.heap.size w7 w' → w'.cell? ⟨g1, 0, none⟩ = some (.string D1) ∧ w'.cell? ⟨g2, 0, none⟩ = some (.string D2) ∧ w'.cell? ⟨A3, X, none⟩ = some (.string P3) ∧ w'.cell? ⟨A4, Y, none⟩ = some (.string P4) ∧ w'.cell? ⟨A5, Z, none⟩ = some (.string P5) ∧ Below w7.heap.size w7 w') := fun w' hx =>
                ⟨(hx.cell gl1).trans cD1, (hx.cell gl2).trans cD2, (hx.cell gl3).trans c3, (hx.cell gl4).trans c4, (hx.cell gl5).trans c5, hx⟩
              have hLl : L.length = i := by have := congrArg List.length HL.out; rw [List.length_map, List.length_map, List.length_range] at this; exact this
              have h63 : Hid (L.length + 1 ≤ maxLen) := by show _ ≤ _; unfold maxLen; omega
              have hby : Hid ((L.length + 1) * 16 ≤ 140737488355328) := by show _ ≤ _; omega
              have q45 : (wrap64 (T : Int)).tmod (L4.length : Int) = (Y : Int) := by rw [q4', q5']
              have ne0 : ¬ (L4.length : Int) * (L5.length : Int) = 0 := by rw [← Int.natCast_mul]; have := Nat.mul_pos p4 p5; omega
              clear hLl cl3 cl4 cl5 hP3 hP4 hP5 c3 c4 c5 hX hY hZ hnn hct q4' q5' q6
              go_wp2_with fail
              go_region_held_law (fun w' => w'.cell? ⟨g1, 0, none⟩ = some (.string D1) ∧ w'.cell? ⟨g2, 0, none⟩ = some (.string D2) ∧ w'.cell? ⟨A3, X, none⟩ = some (.string P3) ∧ w'.cell? ⟨A4, Y, none⟩ = some (.string P4) ∧ w'.cell? ⟨A5, Z, none⟩ = some (.string P5) ∧ Below w7.heap.size w7 w')
                (first | exact HS.out _ hbel.drew | exact HS.out _ (hbel.alloc hz _).drew | exact HS.out _ ((hbel.alloc hz _).drew.grown hgrow (by simp; omega) (fun k hk => (hrow.lt k hk).1)))
                ((refine step_append_lies _ (by rfl) _ _ 117 (by rfl) w7.heap.size 9 i0 _ 1 16 Tryz.underlying117 hi hz0 hz1 hz2 rfl (by decide) _ _ _ (by rfl) (ownsRow_below hrow ((Below.refl _ _).alloc (Nat.le_refl _) _).drew) ⟨wr.heap.size, 0, none⟩ 1 1 [.string (D1 ++ D2 ++ P3 ++ P4 ++ P5 ++ E)] (by rfl) rfl (World.news_of_block (heap_alloc_new wr _)) (by intro u hu; simp only [List.mem_singleton] at hu; subst hu; rfl) (by decide) h63.out hby.out (by simp; omega) _ rfl ?_; intro g cp w8 hown hgrow hat hlt8))
              have hw8 : Below w7.heap.size w7 w8 := (hbel.alloc hz _).drew.grown hgrow (by simp; omega) (fun k hk => (hrow.lt k hk).1)
              have hrow8 : StrRow w8 w7.heap.size (.slice (some ⟨g, 0, none⟩) (L.length + 1) cp) (L ++ [D1 ++ D2 ++ P3 ++ P4 ++ P5 ++ E]) := by unfold StrRow; rw [List.length_append, List.map_append]; exact hown
              have HN2 : Hid ((L ++ [D1 ++ D2 ++ P3 ++ P4 ++ P5 ++ E]).map bl = (List.range (i + 1)).map cu) := by
                show _ = _
                rw [List.map_append, HL.out, List.range_succ, List.map_append]
                simp only [List.map_cons, List.map_nil, bl_app]
                rw [HC.out]
              clear hown hgrow hat HL HC
              go_wp2
              go_roundw
              case rel => exact ⟨i + 1, _, by go_num, by omega, hrow8, HN2, hw8⟩
              case measure => simp [intOf]; omega
            · obtain rfl : i = N := by omega
              have HF : Hid (L.map bl = cbL s) := by show _ = _; rw [HL.out, HQ.out]
              clear HL
              go_wp2
              go_ret2
              exact ⟨CubPost.mk HE (hrow.base (by have := hB7.size; omega)) HF.out, hB7.trans (hbel.mono hB7.size)⟩
    · have HE : Hid (cbE s = 4) := by show cbE s = 4; unfold cbE; rw [hsm, if_neg h256]; rfl
      have HL : Hid (cbL s = []) := by show cbL s = []; unfold cbL; rw [hsm]; simp [h256]
      clear hsm
      go_enter Tryz.func55, Tryz.ntmps55
      go_wp2_with fail
      refine (refCount_any s _ hs).mono ?_
      rintro e w1 ⟨rfl, hb1⟩
      rw [e1, hct]
      have hn : (256 : Int) < (nS (dS s) : Int) := by omega
      generalize nS (dS s) = N at *
      go_wp2
      go_ret2
      exact ⟨CubPost.mk (L := []) HE (StrRow.nil _ _) HL.out.symm, hb1⟩
end Go.Proofs.YtgkiknfpcbcnnaaGreat
