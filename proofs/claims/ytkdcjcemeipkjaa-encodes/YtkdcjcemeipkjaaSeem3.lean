import Derived.Test.YtkdcjcemeipkjaaSeem2
namespace Go.Proofs.Ytkdcjcemeipkjaa
open Go.RowKit
set_option maxRecDepth 20000

theorem mk_mod8 (t : Tm) (last : Bool) (k : Int) (h : isT k t = true) : mk t last % 8 = t.op := by
  obtain ⟨h0, h1, _, _⟩ := isT_bd k t h
  obtain ⟨an, wd, op, vl⟩ := t
  dsimp only at h0 h1
  simp only [mk]
  cases an <;> cases wd <;> cases last <;> simp only [b2, if_true, Bool.false_eq_true, if_false] <;> omega

theorem num_one (s : ByteArray) (a : Int) : num s a 1 = byt s a := by
  show num s a 0 * 256 + byt s (a + (0 : Nat)) = _; simp [num]
theorem num_two (s : ByteArray) (a : Int) : num s a 2 = byt s a * 256 + byt s (a + 1) := by
  show (num s a 0 * 256 + byt s (a + (0 : Nat))) * 256 + byt s (a + (1 : Nat)) = _; simp [num]

theorem smT_valid (s : ByteArray) (k : Int) : ∀ (ts : List Tm) (f : Nat) (b : Bool) (n : Nat), allT k b ts = true → 1 ≤ ts.length → ts.length ≤ f → At s n (wTerms ts) → smT s f n = (ts, n + (wTerms ts).size) := by
  intro ts
  induction ts with
  | nil => intro f b n _ h; simp at h
  | cons t r ih =>
    intro f b n hall _ hn hat
    obtain ⟨f, rfl⟩ : ∃ m, f = m + 1 := ⟨f - 1, by simp at hn; omega⟩
    simp only [allT, Bool.and_eq_true, Bool.not_eq_true'] at hall
    obtain ⟨⟨hf, ht⟩, hr⟩ := hall
    simp only [wTerms, At_app] at hat
    obtain ⟨h1, h2, h3, h4, h5⟩ := wTerm_At s n k t _ ht hat.1
    obtain ⟨m0, m1, m2, m3, m4, m5, m6⟩ := mk_facts t r.isEmpty k ht
    have m8 := mk_mod8 t r.isEmpty k ht
    rw [← h2] at m2 m3 m4 m8
    have hT : smTm s n = t := by
      obtain ⟨an, wd, op, vl⟩ := t
      dsimp only at *
      unfold smTm
      rw [m3, m4, m8]
      cases wd
      · have : num s ((n : Int) + 1) 1 = vl := h4
        rw [num_one] at this
        simp [this]
      · have : num s ((n : Int) + 1) 2 = vl := h4
        rw [num_two] at this
        have e : (n : Int) + 1 + 1 = n + 2 := by omega
        rw [e] at this
        simp only [if_true]
        congr 1
        omega
    have hN : smN s n = n + (1 + (vB t.wd).toNat) := by
      unfold smN; rw [m4]; cases t.wd <;> simp [vB]
    cases r with
    | nil =>
      rw [smT_last s f n (by rw [m2]; rfl), hT, hN]
      have e : (wTerms [t]).size = 1 + (vB t.wd).toNat := by simp only [wTerms, ByteArray.size_append]; rw [h5]; rfl
      rw [e]
    | cons t2 r2 =>
      rw [smT_more s f n (by rw [m2]; rfl), hT, hN]
      have e : n + (1 + (vB t.wd).toNat) = n + (wTerm t (t2 :: r2).isEmpty).size := by rw [h5]
      rw [e, ih f false _ hr (by simp) (by simpa using hn) hat.2]
      simp [wTerms, ByteArray.size_append]; omega

theorem sm_valid (s : ByteArray) (p : Pt) (h : isP p = true) (hat : At s 0 (wPart p)) : sm s = (p, (wPart p).size) := by
  have hty := isP_ty h
  obtain ⟨ty, bt, ln, ts⟩ := p
  dsimp only at hty
  unfold wPart at hat ⊢
  dsimp only at hat ⊢
  cases hk : hasP ty
  · obtain ⟨h1, h2, h3, h4, h5, h6⟩ := isP_terms h hk
    have hb := hasT_bd h1
    dsimp only at h1 h2 h3 h4 h5 h6 hb
    subst h2 h3
    simp only [hk, Bool.false_eq_true, if_false, At_app, ch_size] at hat ⊢
    rw [At_ch s 0 ty (by omega) (by omega)] at hat
    obtain ⟨⟨q1, q2⟩, q3⟩ := hat
    have q2' : byt s 0 = ty := q2
    have := smT_valid s ty ts 9 true 1 h6 h4 (by omega) q3
    unfold sm
    dsimp only
    rw [q2', if_neg (by omega), this, ByteArray.size_append, ch_size]
  · obtain ⟨h1, h2⟩ := isP_pref h hk
    have hb := hasP_bd hk
    dsimp only at h1 h2 hb
    subst h1
    simp only [hk, if_true, At_app, ch_size] at hat ⊢
    rw [At_ch s 0 ty (by omega) (by omega)] at hat
    obtain ⟨⟨q1, q2⟩, q3⟩ := hat
    have q2' : byt s 0 = ty := q2
    obtain ⟨l0, l1, b0, b1, _⟩ := prefOK_bd h2
    obtain ⟨z1, z2⟩ := prefOK_low h2
    have pb := pB_bd ln
    have hsz : (wPref bt ln).size = 1 + (pB ln).toNat := by
      unfold wPref
      have := wNum_size (if pB ln = 1 then bt / 256 else bt) (pB ln) (by omega) (by omega)
      rw [ByteArray.size_append, ch_size]; omega
    rw [ByteArray.size_append, ch_size, hsz]
    unfold wPref at q3
    rw [At_app, At_ch s 1 ln l0 (by omega), ch_size] at q3
    obtain ⟨⟨r1, r2⟩, r3⟩ := q3
    have r2' : byt s 1 = ln := r2
    rw [At_num s 2 _ _ pb.1 pb.2 (by split <;> omega) (by split <;> omega) (fun e => by rw [if_pos e]; omega) (fun e => by rw [if_neg (by omega)]; exact z2 e) (by omega)] at r3
    obtain ⟨r4, r5⟩ := r3
    unfold sm
    dsimp only
    rw [q2', if_pos (by omega), r2']
    by_cases c8 : 8 < ln
    · have hp : pB ln = 2 := by unfold pB; rw [if_pos c8]
      rw [hp] at r5
      have r6 : num s 2 2 = bt := by simpa using r5
      rw [num_two] at r6
      rw [if_pos c8, hp]
      have e3 : byt s (2 + 1) = byt s 3 := rfl
      rw [e3] at r6
      have e : 256 * byt s 2 + byt s 3 = bt := by omega
      rw [e]; rfl
    · by_cases c0 : 0 < ln
      · have hp : pB ln = 1 := by unfold pB; rw [if_neg c8, if_pos c0]
        rw [hp] at r5
        have r6 : num s 2 1 = bt / 256 := by simpa using r5
        rw [num_one] at r6
        have := z1 hp
        rw [if_neg c8, if_pos c0, hp, r6]
        have e : 256 * (bt / 256) = bt := by omega
        rw [e]; rfl
      · have hp : pB ln = 0 := by unfold pB; rw [if_neg c8, if_neg c0]
        have := z2 hp
        subst this
        rw [if_neg c8, if_neg c0, hp]; rfl

theorem bl_from (s : ByteArray) (q : Nat) : bl (s.extract q s.size) = (bl s).drop q := by
  unfold bl
  rw [ByteArray.data_extract]
  simp
  try rw [List.take_of_length_le (by simp)]

/-- The parts that bytes seem to say, from a place on. -/
def smR (s : ByteArray) : Nat → Nat → List Pt
  | 0, _ => []
  | f + 1, q => if q < s.size then (sm (s.extract q s.size)).1 :: smR s f (q + (sm (s.extract q s.size)).2) else []

theorem smR_valid (s : ByteArray) : ∀ (ps : List Pt) (f : Nat) (b : Int) (q : Nat), allP b ps = true → ps.length < f → At s q (wParts ps) → q + (wParts ps).size = s.size → smR s f q = ps := by
  intro ps
  induction ps with
  | nil =>
    intro f b q _ hf _ hs
    obtain ⟨f, rfl⟩ : ∃ m, f = m + 1 := ⟨f - 1, by simp at hf; omega⟩
    have : (wParts []).size = 0 := rfl
    unfold smR; rw [if_neg (by omega)]
  | cons p r ih =>
    intro f b q hall hf hat hs
    obtain ⟨f, rfl⟩ : ∃ m, f = m + 1 := ⟨f - 1, by simp at hf; omega⟩
    simp only [allP, Bool.and_eq_true] at hall
    simp only [wParts, At_app] at hat
    have hpos := wPart_pos p
    simp only [wParts, ByteArray.size_append] at hs
    have hsm := sm_valid (s.extract q s.size) p hall.1.2 (by unfold At; rw [bl_from]; simp only [List.drop_zero]; exact hat.1)
    unfold smR
    rw [if_pos (by omega), hsm]
    dsimp only
    rw [ih f p.ty _ hall.2 (by simpa using hf) hat.2 (by omega)]

theorem ref_yes (s : ByteArray) (h : isR (smR s 6 0) = true) (hw : wParts (smR s 6 0) = s) : decS s = some (smR s 6 0) := by
  have := decS_complete _ h
  rw [hw] at this
  exact this

theorem ref_no (s : ByteArray) (h : isR (smR s 6 0) = false ∨ wParts (smR s 6 0) ≠ s) : decS s = none := by
  apply decS_none
  intro ps hR hw
  have hall : allP 0 ps = true := by unfold isR at hR; simp only [Bool.and_eq_true] at hR; exact hR.1
  have hl := isR_small hR
  have e : smR s 6 0 = ps := smR_valid s ps 6 0 0 hall (by omega) (by rw [hw]; exact At_self s) (by rw [hw]; omega)
  rw [e] at h
  rcases h with h | h
  · rw [hR] at h; cases h
  · exact h hw
end Go.Proofs.Ytkdcjcemeipkjaa
