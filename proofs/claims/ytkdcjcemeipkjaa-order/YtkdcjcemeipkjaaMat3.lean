import Derived.Test.YtkdcjcemeipkjaaMat2
namespace Go.Proofs.Ytkdcjcemeipkjaa
open Go.RowKit
set_option maxRecDepth 20000

theorem isT_op (k : Int) (t : Tm) (h : isT k t = true) : 0 ≤ t.op ∧ t.op ≤ opM k ∧ 0 ≤ t.vl ∧ t.vl ≤ mxV t.wd ∧ (k = 5 → t.wd = false) := by
  unfold isT at h
  simp only [Bool.and_eq_true, decide_eq_true_eq, Bool.not_eq_true', Bool.and_eq_false_iff, decide_eq_false_iff_not] at h
  refine ⟨h.1.1.1.2, h.1.1.2, h.1.2, h.2, fun hk => ?_⟩
  rcases h.1.1.1.1 with h | h
  · exact h
  · exact absurd hk h

set_option maxHeartbeats 400000 in
theorem termHolds_flags (an wd : Bool) (op vl v : Int) (w : World) (o0 : 0 ≤ op) (o1 : op ≤ 3) :
    Calls Try.prog 71 #[.agg #[.bool an, .bool wd, .int .i64 op, .int .i64 vl], .int .i64 5, .int .i64 v] w fun e w' => e = .returned (.bool (fH op vl v)) ∧ Below w.heap.size w w' := by
  go_enter Try.func71, Try.ntmps71
  go_wp2_with (go_at_call 78; refine (flagsHold_any _ _ _ _ _ _ o0 o1).mono ?_; rintro e w1 ⟨rfl, hb1⟩)
  go_ret
  exact ⟨rfl, (below_alloc _ _).trans (hb1.mono (by simp))⟩

theorem termHolds_any (t : Tm) (k v : Int) (w : World) (ht : isT k t = true) :
    Calls Try.prog 71 #[.agg #[.bool t.an, .bool t.wd, .int .i64 t.op, .int .i64 t.vl], .int .i64 k, .int .i64 v] w fun e w' => e = .returned (.bool (tmH k t v)) ∧ Below w.heap.size w w' := by
  obtain ⟨h0, h1, _⟩ := isT_op k t ht
  unfold tmH
  by_cases hk : k = 5
  · subst hk
    rw [if_pos rfl]
    exact termHolds_flags _ _ _ _ _ _ h0 (by unfold opM at h1; simpa using h1)
  · rw [if_neg hk]
    exact termHolds_num _ _ _ _ _ _ _ (by simpa using hk) h0 (by unfold opM at h1; rw [if_neg hk] at h1; exact h1)

set_option maxHeartbeats 800000 in
theorem someGroupHolds_any (ts : List Tm) (ao : Option Addr) (cap : Nat) (k v : Int) (w : World) (hlen : ts.length ≤ 8) (hall : allT k true ts = true) (ht : TermsIn w ao ts) :
    Calls Try.prog 58 #[.slice ao ts.length cap, .int .i64 k, .int .i64 v] w fun e w' => e = .returned (.bool (gH k v ts)) ∧ Below w.heap.size w w' := by
  rw [← gF_gH]
  go_enter Try.func58, Try.ntmps58
  go_wp2
  go_loopw [7, 12] (fun hh i wr => ∃ (j : Nat) (h : Bool), i = .int .i64 j ∧ hh = .bool h ∧ j ≤ ts.length ∧ Below w.heap.size w wr ∧ Hid (gF k v false ts = gF k v h (ts.drop j))) (fun _ i _ => ts.length - (intOf i).toNat)
  case atStart => exact ⟨0, false, rfl, rfl, Nat.zero_le _, Below.refl _ _, rfl⟩
  case round =>
    obtain ⟨j, h, rfl, rfl, hj, hbel, H⟩ := hrel
    by_cases hlt : j < ts.length
    · obtain ⟨b, off, rfl, c0, c1, c2, c3⟩ := ht.below hbel j hlt
      have hd : ts.drop j = ts[j] :: ts.drop (j + 1) := List.drop_eq_getElem_cons hlt
      have hT := allT_get _ _ _ hall j hlt
      rw [hd] at H
      clear hd ht hall
      generalize ts[j] = t at *
      have hz := hbel.size
      obtain ⟨an, wd, op, vl⟩ := t
      simp only [] at c0 c1 c2 c3
      cases an
      · cases h
        · have HN : Hid (gF k v false ts = gF k v (tmH k ⟨false, wd, op, vl⟩ v) (ts.drop (j + 1))) := by show _ = _; rw [H.out]; simp [gF]
          clear H
          go_wp2_with (go_at_call 71; refine (termHolds_any ⟨_, _, _, _⟩ _ _ _ hT).mono ?_; rintro e w1 ⟨rfl, hb1⟩)
          go_roundw
          case rel => exact ⟨j + 1, _, by go_num, rfl, by omega, (hbel.alloc hz _).trans (hb1.mono (by simp; omega)), HN⟩
          case measure => simp [intOf]; omega
        · have HN : Hid (gF k v false ts = true) := by show _ = _; rw [H.out]; simp [gF]
          clear H
          go_wp2
          go_ret
          exact ⟨by rw [HN.out]; rfl, hbel.alloc hz _⟩
      · cases h
        · have HN : Hid (gF k v false ts = gF k v false (ts.drop (j + 1))) := by show _ = _; rw [H.out]; simp [gF]
          clear H
          go_wp2
          go_roundw
          case rel => exact ⟨j + 1, _, by go_num, rfl, by omega, hbel.alloc hz _, HN⟩
          case measure => simp [intOf]; omega
        · have HN : Hid (gF k v false ts = gF k v (tmH k ⟨true, wd, op, vl⟩ v) (ts.drop (j + 1))) := by show _ = _; rw [H.out]; simp [gF]
          clear H
          go_wp2_with (go_at_call 71; refine (termHolds_any ⟨_, _, _, _⟩ _ _ _ hT).mono ?_; rintro e w1 ⟨rfl, hb1⟩)
          go_roundw
          case rel => exact ⟨j + 1, _, by go_num, rfl, by omega, (hbel.alloc hz _).trans (hb1.mono (by simp; omega)), HN⟩
          case measure => simp [intOf]; omega
    · have HN : Hid (gF k v false ts = h) := by show _ = _; rw [H.out, List.drop_of_length_le (by omega)]; rfl
      clear H ht
      go_wp2
      go_ret
      exact ⟨by rw [HN.out]; rfl, hbel⟩

/-- Does a part match a header? -/
def ptM (p : Pt) (h : Hd) : Bool := fldB h p.ty && (if hasP p.ty then lies (fldV h p.ty) p.bt p.ln else gH p.ty (fldV h p.ty) p.ts)

theorem hdOK_fld {h : Hd} (hh : hdOK h = true) (k : Int) (hk : hasP k = true) : 0 ≤ fldV h k ∧ fldV h k ≤ 65535 := by
  simp only [hdOK, Bool.and_eq_true] at hh
  have h1 := isN_bd hh.1.1.1.1
  have h2 := isN_bd hh.1.1.1.2
  have := hasP_bd hk
  unfold fldV
  split
  · exact h1
  · rw [if_pos (by omega)]; exact h2

theorem cells_six {w : World} {a b c d e f : Value} {ty : Nat} {w1 : World} (hb : Below (w.alloc (.cells #[a, b, c, d, e, f] ty)).heap.size (w.alloc (.cells #[a, b, c, d, e, f] ty)) w1) :
    w1.cell? ⟨w.heap.size, 0, none⟩ = some a ∧ w1.cell? ⟨w.heap.size, 1, none⟩ = some b ∧ w1.cell? ⟨w.heap.size, 2, none⟩ = some c ∧ w1.cell? ⟨w.heap.size, 3, none⟩ = some d ∧ w1.cell? ⟨w.heap.size, 4, none⟩ = some e ∧ w1.cell? ⟨w.heap.size, 5, none⟩ = some f ∧ w.heap.size < w1.heap.size := by
  have hz := hb.size
  simp only [World.size_alloc] at hz
  refine ⟨?_, ?_, ?_, ?_, ?_, ?_, by omega⟩
  all_goals exact (hb.cell (by simp)).trans (by simp [go_sem])

set_option maxHeartbeats 800000 in
theorem partMatches_any (p : Pt) (h : Hd) (ao : Option Addr) (cap : Nat) (w : World) (hp : isP p = true) (hh : hdOK h = true) (ht : TermsIn w ao p.ts) :
    Calls Try.prog 34 #[.agg #[.int .i64 p.ty, .int .i64 p.bt, .int .i64 p.ln, .slice ao p.ts.length cap], .agg #[.int .i64 h.ds, .int .i64 h.sr, .int .i64 h.pr, .int .i64 h.po, .int .i64 h.fl, .bool h.la]] w fun e w' => e = .returned (.bool (ptM p h)) ∧ Below w.heap.size w w' := by
  obtain ⟨k0, k1⟩ := isP_ty hp
  unfold ptM
  cases hb : fldB h p.ty
  · simp only [Bool.false_and]
    go_enter Try.func34, Try.ntmps34
    go_wp2_with (go_at_call 56; refine (fieldOf_any h _ _ k0 k1).mono ?_; rintro e w1 ⟨rfl, hb1⟩; rw [hb])
    go_ret
    exact ⟨rfl, ((below_alloc _ _).alloc (by simp) _).trans (hb1.mono (by simp; omega))⟩
  · simp only [Bool.true_and]
    cases hk : hasP p.ty
    · simp only [Bool.false_eq_true, if_false]
      have h8 := (isP_terms hp hk).2.2.2.2.1
      have hall := (isP_terms hp hk).2.2.2.2.2
      go_enter Try.func34, Try.ntmps34
      go_wp2_with fail
      refine (fieldOf_any h _ _ k0 k1).mono ?_
      rintro e w1 ⟨rfl, hb1⟩
      rw [hb]
      have hb2 : Below (w.alloc (.cells #[.int .i64 p.ty, .int .i64 p.bt, .int .i64 p.ln, .slice ao p.ts.length cap] 35)).heap.size (w.alloc (.cells #[.int .i64 p.ty, .int .i64 p.bt, .int .i64 p.ln, .slice ao p.ts.length cap] 35)) w1 := (below_alloc _ _).trans (hb1.mono (by simp))
      obtain ⟨a0, a1, a2, a3, af, az⟩ := cells_of_below hb2
      have hb0 := below_first hb2
      have ht1 := ht.below hb0
      go_wp2_with (first
        | (go_at_call 45; refine (hasPrefix_any _ _).mono ?_; rintro e w' ⟨rfl, rfl⟩; rw [hk])
        | (go_at_call 58; refine (someGroupHolds_any _ _ _ _ _ _ h8 hall ht1).mono ?_; rintro e w2 ⟨rfl, hb3⟩))
      go_ret
      exact ⟨rfl, hb0.trans (hb3.mono (by omega))⟩
    · simp only [if_true]
      have hpr := (isP_pref hp hk).2
      obtain ⟨v0, v1⟩ := hdOK_fld hh p.ty hk
      go_enter Try.func34, Try.ntmps34
      go_wp2_with fail
      refine (fieldOf_any h _ _ k0 k1).mono ?_
      rintro e w1 ⟨rfl, hb1⟩
      rw [hb]
      have hb2 : Below (w.alloc (.cells #[.int .i64 p.ty, .int .i64 p.bt, .int .i64 p.ln, .slice ao p.ts.length cap] 35)).heap.size (w.alloc (.cells #[.int .i64 p.ty, .int .i64 p.bt, .int .i64 p.ln, .slice ao p.ts.length cap] 35)) w1 := (below_alloc _ _).trans (hb1.mono (by simp))
      obtain ⟨a0, a1, a2, a3, af, az⟩ := cells_of_below hb2
      have hb0 := below_first hb2
      go_wp2_with (first
        | (go_at_call 45; refine (hasPrefix_any _ _).mono ?_; rintro e w' ⟨rfl, rfl⟩; rw [hk])
        | (go_at_call 57; refine (liesIn_any _ _ _ _ hpr v0 v1).mono ?_; rintro e w2 ⟨rfl, hb3⟩))
      go_ret
      exact ⟨rfl, hb0.trans (hb3.mono (by omega))⟩
end Go.Proofs.Ytkdcjcemeipkjaa
