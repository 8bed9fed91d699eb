import Derived.Test.YtkdcjcemeipkjaaRef1
namespace Go.Proofs.Ytkdcjcemeipkjaa
open Go.RowKit
set_option maxRecDepth 20000

theorem partOK_pref (p : Pt) (ao : Option Addr) (cap : Nat) (w : World) (h : p.ty = 1 ∨ p.ty = 2) :
    Calls Try.prog 31 #[.agg #[.int .i64 p.ty, .int .i64 p.bt, .int .i64 p.ln, .slice ao p.ts.length cap]] w fun e w' => e = .returned (.bool (prefOK p.bt p.ln && decide (p.ts.length = 0))) ∧ Below w.heap.size w w' := by
  have hz : (((p.ts.length : Int) == 0)) = decide (p.ts.length = 0) := by
    by_cases h : p.ts.length = 0
    · simp [h]
    · have : ¬ ((p.ts.length : Int) = 0) := by omega
      simp [h]
  obtain ⟨ty, bt, ln, ts⟩ := p
  dsimp only at *
  rcases h with rfl | rfl
  all_goals
    cases hp : prefOK bt ln
    all_goals
      go_enter Try.func31, Try.ntmps31
      go_wp2_with (go_at_call 53; refine (prefixOK_any _ _ _).mono ?_; rintro e w1 ⟨rfl, hb1⟩; obtain ⟨a0, a1, a2, a3, af, az⟩ := cells_of_below hb1)
      go_ret
      exact ⟨by simp, below_first hb1⟩

theorem partOK_type (p : Pt) (ao : Option Addr) (cap : Nat) (w : World) (h1 : p.ty ≠ 1) (h2 : p.ty ≠ 2) (h : p.ty < 3 ∨ 5 < p.ty) :
    Calls Try.prog 31 #[.agg #[.int .i64 p.ty, .int .i64 p.bt, .int .i64 p.ln, .slice ao p.ts.length cap]] w fun e w' => e = .returned (.bool false) ∧ Below w.heap.size w w' := by
  have e1 : (p.ty == 1) = false := by simpa using h1
  have e2 : (p.ty == 2) = false := by simpa using h2
  rcases h with h | h
  · have d1 : decide (p.ty < 3) = true := by simpa using h
    go_enter Try.func31, Try.ntmps31
    go_wp2
    go_ret
    exact ⟨rfl, below_alloc _ _⟩
  · have d1 : decide (p.ty < 3) = false := by simp; omega
    have d2 : decide (5 < p.ty) = true := by simpa using h
    go_enter Try.func31, Try.ntmps31
    go_wp2
    go_ret
    exact ⟨rfl, below_alloc _ _⟩

theorem partOK_bits (p : Pt) (ao : Option Addr) (cap : Nat) (w : World) (h : 3 ≤ p.ty) (h' : p.ty ≤ 5) (hne : ¬ p.bt = 0) :
    Calls Try.prog 31 #[.agg #[.int .i64 p.ty, .int .i64 p.bt, .int .i64 p.ln, .slice ao p.ts.length cap]] w fun e w' => e = .returned (.bool false) ∧ Below w.heap.size w w' := by
  have e1 : (p.ty == 1) = false := by simp; omega
  have e2 : (p.ty == 2) = false := by simp; omega
  have d1 : decide (p.ty < 3) = false := by simp; omega
  have d2 : decide (5 < p.ty) = false := by simp; omega
  have hb : (p.bt == 0) = false := by simpa using hne
  go_enter Try.func31, Try.ntmps31
  go_wp2
  go_ret
  exact ⟨rfl, below_alloc _ _⟩

theorem partOK_len (ty ln : Int) (ts : List Tm) (ao : Option Addr) (cap : Nat) (w : World) (h : 3 ≤ ty) (h' : ty ≤ 5) (hne : ¬ ln = 0) :
    Calls Try.prog 31 #[.agg #[.int .i64 ty, .int .i64 0, .int .i64 ln, .slice ao ts.length cap]] w fun e w' => e = .returned (.bool false) ∧ Below w.heap.size w w' := by
  have e1 : (ty == 1) = false := by simp; omega
  have e2 : (ty == 2) = false := by simp; omega
  have d1 : decide (ty < 3) = false := by simp; omega
  have d2 : decide (5 < ty) = false := by simp; omega
  have hb : (ln == 0) = false := by simpa using hne
  go_enter Try.func31, Try.ntmps31
  go_wp2
  go_ret
  exact ⟨rfl, below_alloc _ _⟩

theorem partOK_few (ty : Int) (ts : List Tm) (ao : Option Addr) (cap : Nat) (w : World) (h : 3 ≤ ty) (h' : ty ≤ 5) (hne : ts.length < 1 ∨ 8 < ts.length) :
    Calls Try.prog 31 #[.agg #[.int .i64 ty, .int .i64 0, .int .i64 0, .slice ao ts.length cap]] w fun e w' => e = .returned (.bool false) ∧ Below w.heap.size w w' := by
  have e1 : (ty == 1) = false := by simp; omega
  have e2 : (ty == 2) = false := by simp; omega
  have d1 : decide (ty < 3) = false := by simp; omega
  have d2 : decide (5 < ty) = false := by simp; omega
  rcases hne with hn | hn
  · have d3 : decide ((ts.length : Int) < 1) = true := by simp; omega
    go_enter Try.func31, Try.ntmps31
    go_wp2
    go_ret
    exact ⟨rfl, below_alloc _ _⟩
  · have d3 : decide ((ts.length : Int) < 1) = false := by simp; omega
    have d4 : decide (8 < (ts.length : Int)) = true := by simp; omega
    go_enter Try.func31, Try.ntmps31
    go_wp2
    go_ret
    exact ⟨rfl, below_alloc _ _⟩

def tOK (k : Int) (t : Tm) (f : Bool) : Bool := !(t.an && f) && isT k t

theorem termOK_b (k : Int) (t : Tm) (f : Bool) (w W0 : World) (hb : Below W0.heap.size W0 w) :
    Calls Try.prog 54 #[.int .i64 k, .agg #[.bool t.an, .bool t.wd, .int .i64 t.op, .int .i64 t.vl], .bool f] w fun e w' => e = .returned (.bool (tOK k t f)) ∧ Below W0.heap.size W0 w' :=
  (termOK_any k t f w).mono fun _ _ h => ⟨h.1, hb.trans (h.2.mono hb.size)⟩

set_option maxHeartbeats 1600000 in
theorem partOK_terms (ty : Int) (ts : List Tm) (ao : Option Addr) (cap : Nat) (w : World) (h : 3 ≤ ty) (h' : ty ≤ 5) (hn : 1 ≤ ts.length) (hn' : ts.length ≤ 8) (ht : TermsIn w ao ts) :
    Calls Try.prog 31 #[.agg #[.int .i64 ty, .int .i64 0, .int .i64 0, .slice ao ts.length cap]] w fun e w' => e = .returned (.bool (allT ty true ts)) ∧ Below w.heap.size w w' := by
  have e1 : (ty == 1) = false := by simp; omega
  have e2 : (ty == 2) = false := by simp; omega
  have d1 : decide (ty < 3) = false := by simp; omega
  have d2 : decide (5 < ty) = false := by simp; omega
  have d3 : decide ((ts.length : Int) < 1) = false := by simp; omega
  have d4 : decide (8 < (ts.length : Int)) = false := by simp; omega
  go_enter Try.func31, Try.ntmps31
  go_wp2
  go_loopw [4] (fun i wr => ∃ j : Nat, i = .int .i64 j ∧ j ≤ ts.length ∧ Below (w.alloc (.cells #[.int .i64 ty, .int .i64 0, .int .i64 0, .slice ao ts.length cap] 35)).heap.size (w.alloc (.cells #[.int .i64 ty, .int .i64 0, .int .i64 0, .slice ao ts.length cap] 35)) wr ∧ Hid (allT ty true ts = allT ty (j == 0) (ts.drop j))) (fun i _ => ts.length - (intOf i).toNat)
  case atStart => exact ⟨0, rfl, Nat.zero_le _, Below.refl _ _, rfl⟩
  case round =>
    obtain ⟨j, rfl, hj, hbel, H⟩ := hrel
    obtain ⟨a0, a1, a2, a3, af, az⟩ := cells_of_below hbel
    have hb0 := below_first hbel
    by_cases hlt : j < ts.length
    · obtain ⟨b, off, rfl, c0, c1, c2, c3⟩ := ht.below hb0 j hlt
      have hd : ts.drop j = ts[j] :: ts.drop (j + 1) := List.drop_eq_getElem_cons hlt
      rw [hd] at H
      clear hd ht
      generalize ts[j] = t at *
      have hlb : b < wr.heap.size := World.block_lt_of_cell? wr _ c0
      have hj0 : ((j : Int) == 0) = (j == 0) := by cases j <;> simp; omega
      have HS : Hid (∀ w' : World, Below wr.heap.size wr w' → w'.cell? ⟨w.heap.size, 0, none⟩ = some (.int .i64 ty) ∧ w'.cell? ⟨w.heap.size, 3, none⟩ = some (.slice (some ⟨b, off, none⟩) ts.length cap) ∧ w'.cell? ⟨b, off + j * 4, none⟩ = some (.bool t.an) ∧ w'.cell? ⟨b, off + j * 4 + 1, none⟩ = some (.bool t.wd) ∧ w'.cell? ⟨b, off + j * 4 + 2, none⟩ = some (.int .i64 t.op) ∧ w'.cell? ⟨b, off + j * 4 + 3, none⟩ = some (.int .i64 t.vl) ∧ Below wr.heap.size wr w') := fun w' hb =>
        ⟨(hb.cell az).trans a0, (hb.cell az).trans a3, (hb.cell hlb).trans c0, (hb.cell hlb).trans c1, (hb.cell hlb).trans c2, (hb.cell hlb).trans c3, hb⟩
      have hz := hbel.size
      cases hr : tOK ty t (j == 0)
      · have HF : Hid (allT ty true ts = false) := by show _ = _; rw [H.out]; unfold tOK at hr; simp only [allT, hr, Bool.false_and]
        clear H
        go_wp2_with fail
        go_region_held3 (fun w' => w'.cell? ⟨w.heap.size, 0, none⟩ = some (.int .i64 ty) ∧ w'.cell? ⟨w.heap.size, 3, none⟩ = some (.slice (some ⟨b, off, none⟩) ts.length cap) ∧ w'.cell? ⟨b, off + j * 4, none⟩ = some (.bool t.an) ∧ w'.cell? ⟨b, off + j * 4 + 1, none⟩ = some (.bool t.wd) ∧ w'.cell? ⟨b, off + j * 4 + 2, none⟩ = some (.int .i64 t.op) ∧ w'.cell? ⟨b, off + j * 4 + 3, none⟩ = some (.int .i64 t.vl) ∧ Below wr.heap.size wr w')
          (first | exact HS.out _ (by assumption) | exact HS.out _ (Below.refl _ _).drew)
          (first | (go_at_call 54; refine (termOK_b _ _ _ _ wr (by go_split_ands; assumption)).mono ?_; rintro e w1 ⟨rfl, hb1⟩))
        go_wp2
        go_ret
        exact ⟨by rw [HF.out]; rfl, hb0.trans (hb1.mono (by omega))⟩
      · have HN : Hid (allT ty true ts = allT ty (j + 1 == 0) (ts.drop (j + 1))) := by show _ = _; rw [H.out]; unfold tOK at hr; simp only [allT, hr, Bool.true_and]; rfl
        clear H
        go_wp2_with fail
        go_region_held3 (fun w' => w'.cell? ⟨w.heap.size, 0, none⟩ = some (.int .i64 ty) ∧ w'.cell? ⟨w.heap.size, 3, none⟩ = some (.slice (some ⟨b, off, none⟩) ts.length cap) ∧ w'.cell? ⟨b, off + j * 4, none⟩ = some (.bool t.an) ∧ w'.cell? ⟨b, off + j * 4 + 1, none⟩ = some (.bool t.wd) ∧ w'.cell? ⟨b, off + j * 4 + 2, none⟩ = some (.int .i64 t.op) ∧ w'.cell? ⟨b, off + j * 4 + 3, none⟩ = some (.int .i64 t.vl) ∧ Below wr.heap.size wr w')
          (first | exact HS.out _ (by assumption) | exact HS.out _ (Below.refl _ _).drew)
          (first | (go_at_call 54; refine (termOK_b _ _ _ _ wr (by go_split_ands; assumption)).mono ?_; rintro e w1 ⟨rfl, hb1⟩))
        go_wp2
        go_roundw
        case rel => exact ⟨j + 1, by go_num, by omega, hbel.trans (hb1.mono hz), HN⟩
        case measure => simp [intOf]; omega
    · have HN : Hid (allT ty true ts = true) := by show _ = _; rw [H.out, List.drop_of_length_le (by omega)]; rfl
      clear H ht
      go_wp2
      go_ret
      exact ⟨by rw [HN.out]; rfl, hb0⟩

theorem partOK_any (p : Pt) (ao : Option Addr) (cap : Nat) (w : World) (ht : TermsIn w ao p.ts) :
    Calls Try.prog 31 #[.agg #[.int .i64 p.ty, .int .i64 p.bt, .int .i64 p.ln, .slice ao p.ts.length cap]] w fun e w' => e = .returned (.bool (isP p)) ∧ Below w.heap.size w w' := by
  by_cases hk : p.ty = 1 ∨ p.ty = 2
  · have hp : hasP p.ty = true := by simpa [hasP] using hk
    have e : isP p = (prefOK p.bt p.ln && decide (p.ts.length = 0)) := by unfold isP; rw [if_pos hp, Bool.and_comm]
    rw [e]; exact partOK_pref p ao cap w hk
  · have hp : hasP p.ty = false := by simpa [hasP] using hk
    by_cases hr : p.ty < 3 ∨ 5 < p.ty
    · have hT : hasT p.ty = false := by simp [hasT]; omega
      have e : isP p = false := by unfold isP; simp [hp, hT]
      rw [e]; exact partOK_type p ao cap w (fun h => hk (.inl h)) (fun h => hk (.inr h)) hr
    · have hT : hasT p.ty = true := by simp [hasT]; omega
      by_cases hb : p.bt = 0
      · obtain ⟨ty, bt, ln, ts⟩ := p
        dsimp only at *
        subst hb
        by_cases hl : ln = 0
        · subst hl
          have e : isP ⟨ty, 0, 0, ts⟩ = areT ty ts := by unfold isP; simp [hp, hT]
          rw [e]
          by_cases hn : ts.length < 1 ∨ 8 < ts.length
          · have e2 : areT ty ts = false := by unfold areT; simp; omega
            rw [e2]; exact partOK_few ty ts ao cap w (by omega) (by omega) hn
          · have e2 : areT ty ts = allT ty true ts := by unfold areT; simp; omega
            rw [e2]; exact partOK_terms ty ts ao cap w (by omega) (by omega) (by omega) (by omega) ht
        · have e : isP ⟨ty, 0, ln, ts⟩ = false := by unfold isP; simp [hp, hT, hl]
          rw [e]; exact partOK_len ty ln ts ao cap w (by omega) (by omega) hl
      · have e : isP p = false := by unfold isP; simp [hp, hT, hb]
        rw [e]; exact partOK_bits p ao cap w (by omega) (by omega) hb
end Go.Proofs.Ytkdcjcemeipkjaa
