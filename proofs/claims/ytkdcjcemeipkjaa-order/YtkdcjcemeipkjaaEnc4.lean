import Derived.Test.YtkdcjcemeipkjaaEnc3
namespace Go.Proofs.Ytkdcjcemeipkjaa
open Go.RowKit
set_option maxRecDepth 20000

def isP (p : Pt) : Bool := if hasP p.ty then decide (p.ts.length = 0) && prefOK p.bt p.ln else if hasT p.ty then decide (p.bt = 0) && decide (p.ln = 0) && areT p.ty p.ts else false

set_option maxHeartbeats 800000 in
theorem isPart_any (p : Pt) (ao : Option Addr) (cap : Nat) (w : World) (hlen : p.ts.length ≤ 140737488351232) (ht : TermsIn w ao p.ts) :
    Calls Try.prog 49 #[.agg #[.int .i64 p.ty, .int .i64 p.bt, .int .i64 p.ln, .slice ao p.ts.length cap]] w fun e w' => e = .returned (.bool (isP p)) ∧ Below w.heap.size w w' := by
  have ht' := ht.below (below_alloc w (.cells #[.int .i64 p.ty, .int .i64 p.bt, .int .i64 p.ln, .slice ao p.ts.length cap] 35))
  cases hp : hasP p.ty
  · cases hh : hasT p.ty
    · have e : isP p = false := by unfold isP; simp [hp, hh]
      rw [e]; clear e
      go_enter Try.func49, Try.ntmps49
      go_wp2_with (first
        | (go_at_call 45; refine (hasPrefix_any _ _).mono ?_; rintro e w' ⟨rfl, rfl⟩)
        | (go_at_call 47; refine (hasTerms_any _ _).mono ?_; rintro e w' ⟨rfl, rfl⟩))
      go_ret
      exact ⟨rfl, below_alloc _ _⟩
    · by_cases hb : p.bt = 0
      · by_cases hl : p.ln = 0
        · have e : isP p = areT p.ty p.ts := by unfold isP; simp [hp, hh, hb, hl]
          rw [e]; clear e
          have hb' : (p.bt == 0) = true := by simpa using hb
          have hl' : (p.ln == 0) = true := by simpa using hl
          clear hb hl
          go_enter Try.func49, Try.ntmps49
          go_wp2_with (first
            | (go_at_call 45; refine (hasPrefix_any _ _).mono ?_; rintro e w' ⟨rfl, rfl⟩)
            | (go_at_call 47; refine (hasTerms_any _ _).mono ?_; rintro e w' ⟨rfl, rfl⟩)
            | (go_at_call 69; refine (areTerms_any _ _ _ _ _ hlen ht').mono ?_; rintro e w1 ⟨rfl, hb1⟩))
          go_ret
          exact ⟨rfl, below_first hb1⟩
        · have e : isP p = false := by unfold isP; simp [hp, hh, hl]
          rw [e]; clear e
          have hb' : (p.bt == 0) = true := by simpa using hb
          have hl' : (p.ln == 0) = false := by simpa using hl
          clear hb hl
          go_enter Try.func49, Try.ntmps49
          go_wp2_with (first
            | (go_at_call 45; refine (hasPrefix_any _ _).mono ?_; rintro e w' ⟨rfl, rfl⟩)
            | (go_at_call 47; refine (hasTerms_any _ _).mono ?_; rintro e w' ⟨rfl, rfl⟩))
          go_ret
          exact ⟨rfl, below_alloc _ _⟩
      · have e : isP p = false := by unfold isP; simp [hp, hh, hb]
        rw [e]; clear e
        have hb' : (p.bt == 0) = false := by simpa using hb
        clear hb
        go_enter Try.func49, Try.ntmps49
        go_wp2_with (first
          | (go_at_call 45; refine (hasPrefix_any _ _).mono ?_; rintro e w' ⟨rfl, rfl⟩)
          | (go_at_call 47; refine (hasTerms_any _ _).mono ?_; rintro e w' ⟨rfl, rfl⟩))
        go_ret
        exact ⟨rfl, below_alloc _ _⟩
  · by_cases hn : p.ts.length = 0
    · have e : isP p = prefOK p.bt p.ln := by unfold isP; simp only [hp, if_true, hn, decide_true, Bool.true_and]
      rw [e]; clear e
      have hn' : ((p.ts.length : Int) == 0) = true := by simp; exact List.length_eq_zero_iff.1 hn
      have HN : Hid (p.ts.length = 0) := hn
      clear hn
      go_enter Try.func49, Try.ntmps49
      go_wp2_with (first
        | (go_at_call 45; refine (hasPrefix_any _ _).mono ?_; rintro e w' ⟨rfl, rfl⟩)
        | (go_at_call 65; refine (isPrefix_any _ _ _).mono ?_; rintro e w1 ⟨rfl, hb1⟩))
      go_ret
      exact ⟨rfl, below_first hb1⟩
    · have e : isP p = false := by unfold isP; simp only [hp, if_true, hn, decide_false, Bool.false_and]
      rw [e]; clear e
      have hn' : ((p.ts.length : Int) == 0) = false := by simp; intro h; exact hn (by rw [h]; rfl)
      clear hn
      go_enter Try.func49, Try.ntmps49
      go_wp2_with (go_at_call 45; refine (hasPrefix_any _ _).mono ?_; rintro e w' ⟨rfl, rfl⟩)
      go_ret
      exact ⟨rfl, below_alloc _ _⟩

/-- The parts lie at ao, whoever owns them. -/
def PartsIn (w : World) (ao : Option Addr) (ps : List Pt) : Prop :=
  ∀ i (h : i < ps.length), ∃ b off tao tcap, ao = some ⟨b, off, none⟩ ∧ w.cell? ⟨b, off + i * 4, none⟩ = some (.int .i64 ps[i].ty) ∧ w.cell? ⟨b, off + i * 4 + 1, none⟩ = some (.int .i64 ps[i].bt) ∧
    w.cell? ⟨b, off + i * 4 + 2, none⟩ = some (.int .i64 ps[i].ln) ∧ w.cell? ⟨b, off + i * 4 + 3, none⟩ = some (.slice tao ps[i].ts.length tcap) ∧ ps[i].ts.length ≤ 140737488351232 ∧ TermsIn w tao ps[i].ts

theorem PartsIn.below {w w' : World} {ao : Option Addr} {ps : List Pt} (h : PartsIn w ao ps) (hb : Below w.heap.size w w') : PartsIn w' ao ps := by
  intro i hi
  obtain ⟨b, off, tao, tcap, e, c0, c1, c2, c3, hl, ht⟩ := h i hi
  have hlt : b < w.heap.size := World.block_lt_of_cell? w _ c0
  exact ⟨b, off, tao, tcap, e, by rw [hb.cell hlt]; exact c0, by rw [hb.cell hlt]; exact c1, by rw [hb.cell hlt]; exact c2, by rw [hb.cell hlt]; exact c3, hl, ht.below hb⟩

def allP : Int → List Pt → Bool
  | _, [] => true
  | b, p :: r => decide (b < p.ty) && isP p && allP p.ty r
def isR (ps : List Pt) : Bool := allP 0 ps && decide (0 < ps.length)

set_option maxHeartbeats 800000 in
theorem isRule_any (ps : List Pt) (ao : Option Addr) (cap : Nat) (w : World) (hlen : ps.length ≤ 140737488351232) (hp : PartsIn w ao ps) :
    Calls Try.prog 29 #[.agg #[.slice ao ps.length cap]] w fun e w' => e = .returned (.bool (isR ps)) ∧ Below w.heap.size w w' := by
  go_enter Try.func29, Try.ntmps29
  go_wp2
  go_loopw [3, 9] (fun bf i wr => ∃ (j : Nat) (b : Int), i = .int .i64 j ∧ bf = .int .i64 b ∧ j ≤ ps.length ∧ Below (w.heap.size + 1) (w.alloc (.cells #[.slice ao ps.length cap] 24)) wr ∧ Hid (allP 0 ps = allP b (ps.drop j))) (fun _ i _ => ps.length - (intOf i).toNat)
  case atStart => exact ⟨0, 0, rfl, rfl, Nat.zero_le _, Below.refl _ _, rfl⟩
  case round =>
    obtain ⟨j, b, rfl, rfl, hj, hbel, H⟩ := hrel
    have hb0 := below_first' hbel
    have hz := hb0.size
    have k0 : wr.cell? ⟨w.heap.size, 0, none⟩ = some (.slice ao ps.length cap) := (hbel.cell (by simp)).trans (by simp [go_sem])
    have hz' := hbel.size
    simp only [World.size_alloc] at hz'
    by_cases hlt : j < ps.length
    · obtain ⟨bl, off, tao, tcap, rfl, c0, c1, c2, c3, hl, ht⟩ := hp.below hb0 j hlt
      have hd : ps.drop j = ps[j] :: ps.drop (j + 1) := List.drop_eq_getElem_cons hlt
      rw [hd] at H
      clear hd hp
      generalize ps[j] = p at *
      by_cases hty : p.ty ≤ b
      · have HF : Hid (isR ps = false) := by show isR ps = _; unfold isR; rw [H.out]; simp [allP]; omega
        clear H
        go_wp2
        go_ret
        exact ⟨by rw [HF.out]; rfl, hb0.alloc (by omega) _⟩
      · cases hP : isP p
        · have HF : Hid (isR ps = false) := by show isR ps = _; unfold isR; rw [H.out]; simp [allP, hP]
          clear H
          have ht1 := ht.below (below_alloc wr (.cells #[.int .i64 p.ty, .int .i64 p.bt, .int .i64 p.ln, .slice tao p.ts.length tcap] 35))
          go_wp2_with (go_at_call 49; refine (isPart_any _ _ _ _ hl ht1).mono ?_; rintro e w1 ⟨rfl, hb1⟩)
          go_ret
          exact ⟨by rw [HF.out]; rfl, (hb0.alloc (by omega) _).trans (hb1.mono (by simp; omega))⟩
        · have HN : Hid (allP 0 ps = allP p.ty (ps.drop (j + 1))) := by show _ = _; rw [H.out]; simp [allP, hP]; omega
          clear H
          have ht1 := ht.below (below_alloc wr (.cells #[.int .i64 p.ty, .int .i64 p.bt, .int .i64 p.ln, .slice tao p.ts.length tcap] 35))
          go_wp2_with (go_at_call 49; refine (isPart_any _ _ _ _ hl ht1).mono ?_; rintro e w1 ⟨rfl, hb1⟩; have q0 : w1.cell? ⟨wr.heap.size, 0, none⟩ = some (.int .i64 p.ty) := (cells_of_below hb1).1)
          go_roundw
          case rel => exact ⟨j + 1, p.ty, by go_num, rfl, by omega, (hbel.alloc (by omega) _).trans (hb1.mono (by simp; omega)), HN⟩
          case measure => simp [intOf]; omega
    · have HN : Hid (isR ps = decide (0 < ps.length)) := by show isR ps = _; unfold isR; rw [H.out, List.drop_of_length_le (by omega)]; simp [allP]
      clear H hp
      go_wp2
      go_ret
      exact ⟨by rw [HN.out]; simp, hb0⟩
end Go.Proofs.Ytkdcjcemeipkjaa
