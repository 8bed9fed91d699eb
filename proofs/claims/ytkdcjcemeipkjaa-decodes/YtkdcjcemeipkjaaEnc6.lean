import Derived.Test.YtkdcjcemeipkjaaEnc5
namespace Go.Proofs.Ytkdcjcemeipkjaa
open Go.RowKit
set_option maxRecDepth 20000

theorem allT_get (k : Int) : ∀ (ts : List Tm) (f : Bool), allT k f ts = true → ∀ j (h : j < ts.length), isT k ts[j] = true := by
  intro ts
  induction ts with
  | nil => intro f _ j h; simp at h
  | cons t r ih =>
    intro f hf j h
    simp only [allT, Bool.and_eq_true] at hf
    cases j with
    | zero => exact hf.1.2
    | succ j => exact ih false hf.2 j (by simpa using h)

theorem isT_bd (k : Int) (t : Tm) (h : isT k t = true) : 0 ≤ t.op ∧ t.op ≤ 7 ∧ 0 ≤ t.vl ∧ t.vl ≤ mxV t.wd := by
  unfold isT at h
  simp only [Bool.and_eq_true, decide_eq_true_eq] at h
  have : opM k ≤ 7 := by unfold opM; split <;> omega
  exact ⟨h.1.1.1.2, by omega, h.1.2, h.2⟩

set_option maxHeartbeats 800000 in
theorem writePart_terms (p : Pt) (ao : Option Addr) (cap : Nat) (w : World) (hk : hasP p.ty = false) (h0 : 0 ≤ p.ty) (h1 : p.ty ≤ 255) (hlen : p.ts.length ≤ 8) (hall : allT p.ty true p.ts = true) (ht : TermsIn w ao p.ts) :
    Calls Try.prog 30 #[.agg #[.int .i64 p.ty, .int .i64 p.bt, .int .i64 p.ln, .slice ao p.ts.length cap]] w fun e w' => e = .returned (.string (wNum p.ty 1 ++ wTerms p.ts)) ∧ Below w.heap.size w w' := by
  have s1 : (wNum p.ty 1).size = 1 := rfl
  go_enter Try.func30, Try.ntmps30
  go_wp2_with (first
    | (go_at_call 50; refine (writeNumber_any _ _ _ (by omega) (by omega) (by omega) (by omega) (by omega)).mono ?_; rintro e w1 ⟨rfl, hb1⟩; obtain ⟨a0, a1, a2, a3, af, az⟩ := cells_of_below hb1)
    | (go_at_call 45; refine (hasPrefix_any _ _).mono ?_; rintro e w' ⟨rfl, rfl⟩))
  go_loopw [3, 20] (fun s i wr => ∃ (j : Nat) (acc : ByteArray), i = .int .i64 j ∧ s = .string acc ∧ j ≤ p.ts.length ∧ acc.size ≤ 1 + 3 * j ∧ Below (w.alloc (.cells #[.int .i64 p.ty, .int .i64 p.bt, .int .i64 p.ln, .slice ao p.ts.length cap] 35)).heap.size (w.alloc (.cells #[.int .i64 p.ty, .int .i64 p.bt, .int .i64 p.ln, .slice ao p.ts.length cap] 35)) wr ∧ Hid (acc ++ wTerms (p.ts.drop j) = wNum p.ty 1 ++ wTerms p.ts)) (fun _ i _ => p.ts.length - (intOf i).toNat)
  case atStart => exact ⟨0, _, rfl, rfl, Nat.zero_le _, by omega, hb1, rfl⟩
  case round =>
    obtain ⟨j, acc, rfl, rfl, hj, hacc, hbel, H⟩ := hrel
    clear a0 a1 a2 a3 af az hb1
    obtain ⟨a0, a1, a2, a3, af, az⟩ := cells_of_below hbel
    have hb0 := below_first hbel
    by_cases hlt : j < p.ts.length
    · obtain ⟨b, off, rfl, c0, c1, c2, c3⟩ := ht.below hb0 j hlt
      have hd : p.ts.drop j = p.ts[j] :: p.ts.drop (j + 1) := List.drop_eq_getElem_cons hlt
      have hT := isT_bd _ _ (allT_get _ _ _ hall j hlt)
      have hlast : ((j : Int) == (p.ts.length : Int) - 1) = (p.ts.drop (j + 1)).isEmpty := by
        cases hv : (p.ts.drop (j + 1)) with
        | nil => have := congrArg List.length hv; simp at this ⊢; omega
        | cons a l => have := congrArg List.length hv; simp at this ⊢; omega
      rw [hd] at H
      clear hd ht hall
      generalize p.ts[j] = t at *
      have hz : w.heap.size < wr.heap.size := az
      have hsz := wTerm_size t (p.ts.drop (j + 1)).isEmpty
      have HN : Hid ((acc ++ wTerm t (p.ts.drop (j + 1)).isEmpty) ++ wTerms (p.ts.drop (j + 1)) = wNum p.ty 1 ++ wTerms p.ts) := by
        show _ = _
        rw [← H.out, app_assoc]; rfl
      clear H
      generalize (p.ts.drop (j + 1)).isEmpty = last at *
      go_wp2_with (go_at_call 52; refine (writeTerm_any _ _ _ hT.1 hT.2.1 hT.2.2.1 hT.2.2.2).mono ?_; rintro e w2 ⟨rfl, hb2⟩)
      go_roundw
      case rel => exact ⟨j + 1, _, by go_num, rfl, by omega, by rw [ByteArray.size_append]; omega, (hbel.alloc (by simp; omega) _).trans (hb2.mono (by simp; omega)), HN⟩
      case measure => simp [intOf]; omega
    · have HN : Hid (wNum p.ty 1 ++ wTerms p.ts = acc) := by show _ = _; rw [← H.out, List.drop_of_length_le (by omega)]; exact app_nil _
      clear H ht hall
      go_wp2
      go_ret
      exact ⟨by rw [HN.out]; rfl, hb0⟩

set_option maxHeartbeats 400000 in
theorem writePart_pref (p : Pt) (ao : Option Addr) (cap : Nat) (w : World) (hk : hasP p.ty = true) (h0 : 0 ≤ p.ty) (h1 : p.ty ≤ 255) (hp : prefOK p.bt p.ln = true) :
    Calls Try.prog 30 #[.agg #[.int .i64 p.ty, .int .i64 p.bt, .int .i64 p.ln, .slice ao p.ts.length cap]] w fun e w' => e = .returned (.string (wNum p.ty 1 ++ wPref p.bt p.ln)) ∧ Below w.heap.size w w' := by
  have s1 : (wNum p.ty 1).size = 1 := rfl
  have s2 := wPref_size p.bt p.ln
  go_enter Try.func30, Try.ntmps30
  go_wp2_with (first
    | (go_at_call 50; refine (writeNumber_any _ _ _ (by omega) (by omega) (by omega) (by omega) (by omega)).mono ?_; rintro e w1 ⟨rfl, hb1⟩; obtain ⟨a0, a1, a2, a3, af, az⟩ := cells_of_below hb1)
    | (go_at_call 45; refine (hasPrefix_any _ _).mono ?_; rintro e w' ⟨rfl, rfl⟩)
    | (go_at_call 51; refine (writePrefix_any _ _ _ hp).mono ?_; rintro e w2 ⟨rfl, hb2⟩))
  go_ret
  exact ⟨rfl, (below_first hb1).trans (hb2.mono (by omega))⟩

theorem hasP_bd {k : Int} (h : hasP k = true) : 1 ≤ k ∧ k ≤ 2 := by simp only [hasP, decide_eq_true_eq] at h; omega
theorem hasT_bd {k : Int} (h : hasT k = true) : 3 ≤ k ∧ k ≤ 5 := by simp only [hasT, decide_eq_true_eq] at h; omega

theorem isP_pref {p : Pt} (h : isP p = true) (hk : hasP p.ty = true) : p.ts = [] ∧ prefOK p.bt p.ln = true := by
  unfold isP at h
  rw [if_pos hk] at h
  simp only [Bool.and_eq_true, decide_eq_true_eq] at h
  exact ⟨List.length_eq_zero_iff.1 h.1, h.2⟩
theorem isP_terms {p : Pt} (h : isP p = true) (hk : hasP p.ty = false) : hasT p.ty = true ∧ p.bt = 0 ∧ p.ln = 0 ∧ 1 ≤ p.ts.length ∧ p.ts.length ≤ 8 ∧ allT p.ty true p.ts = true := by
  unfold isP at h
  rw [if_neg (by simp [hk])] at h
  split at h
  · rename_i hh
    unfold areT at h
    simp only [Bool.and_eq_true, decide_eq_true_eq] at h
    exact ⟨hh, h.1.1, h.1.2, h.2.1.1, h.2.1.2, h.2.2⟩
  · cases h

theorem writePart_any (p : Pt) (ao : Option Addr) (cap : Nat) (w : World) (hp : isP p = true) (ht : TermsIn w ao p.ts) :
    Calls Try.prog 30 #[.agg #[.int .i64 p.ty, .int .i64 p.bt, .int .i64 p.ln, .slice ao p.ts.length cap]] w fun e w' => e = .returned (.string (wPart p)) ∧ Below w.heap.size w w' := by
  unfold wPart
  cases hk : hasP p.ty
  · obtain ⟨h1, h2, h3, h4, h5, h6⟩ := isP_terms hp hk
    have := hasT_bd h1
    exact writePart_terms p ao cap w hk (by omega) (by omega) h5 h6 ht
  · obtain ⟨h1, h2⟩ := isP_pref hp hk
    have := hasP_bd hk
    exact writePart_pref p ao cap w hk (by omega) (by omega) h2

theorem wPart_size {p : Pt} (h : isP p = true) : (wPart p).size ≤ 25 := by
  unfold wPart
  cases hk : hasP p.ty
  · obtain ⟨h1, h2, h3, h4, h5, h6⟩ := isP_terms h hk
    have := wTerms_size p.ts
    simp only [Bool.false_eq_true, if_false, ByteArray.size_append, ch_size]; omega
  · have := wPref_size p.bt p.ln
    simp only [if_true, ByteArray.size_append, ch_size]; omega

theorem isP_ty {p : Pt} (h : isP p = true) : 1 ≤ p.ty ∧ p.ty ≤ 5 := by
  cases hk : hasP p.ty
  · have := hasT_bd (isP_terms h hk).1; omega
  · have := hasP_bd hk; omega

theorem allP_get : ∀ (ps : List Pt) (b : Int), allP b ps = true → ∀ j (h : j < ps.length), isP ps[j] = true := by
  intro ps
  induction ps with
  | nil => intro b _ j h; simp at h
  | cons p r ih =>
    intro b hf j h
    simp only [allP, Bool.and_eq_true] at hf
    cases j with
    | zero => exact hf.1.2
    | succ j => exact ih _ hf.2 j (by simpa using h)

theorem allP_len : ∀ (ps : List Pt) (b : Int), 0 ≤ b → b ≤ 5 → allP b ps = true → (ps.length : Int) + b ≤ 5 := by
  intro ps
  induction ps with
  | nil => intro b _ h _; simpa using h
  | cons p r ih =>
    intro b h0 h5 hf
    simp only [allP, Bool.and_eq_true, decide_eq_true_eq] at hf
    have := isP_ty hf.1.2
    have := ih p.ty (by omega) this.2 hf.2
    simp only [List.length_cons]; omega

set_option maxHeartbeats 800000 in
theorem encode_yes (ps : List Pt) (ao : Option Addr) (cap : Nat) (w : World) (hr : isR ps = true) (hp : PartsIn w ao ps) :
    Calls Try.prog 16 #[.agg #[.slice ao ps.length cap]] w fun e w' => e = .returned (.tuple #[.string (wParts ps), .int .i64 0]) ∧ Below w.heap.size w w' := by
  have hall : allP 0 ps = true := by unfold isR at hr; simp only [Bool.and_eq_true] at hr; exact hr.1
  have hlen := allP_len ps 0 (by omega) (by omega) hall
  have hp1 := hp.below (below_alloc w (.cells #[.slice ao ps.length cap] 24))
  go_enter Try.func16, Try.ntmps16
  go_wp2_with (go_at_call 29; refine (isRule_any _ _ _ _ (by omega) hp1).mono ?_; rintro e w1 ⟨rfl, hb1⟩; have k1 : w1.cell? ⟨w.heap.size, 0, none⟩ = some (.slice ao ps.length cap) := (hb1.cell (by simp)).trans (by simp [go_sem]))
  go_loopw [4, 13] (fun s i wr => ∃ (j : Nat) (acc : ByteArray), i = .int .i64 j ∧ s = .string acc ∧ j ≤ ps.length ∧ acc.size ≤ 25 * j ∧ Below w.heap.size w wr ∧ Hid (acc ++ wParts (ps.drop j) = wParts ps)) (fun _ i _ => ps.length - (intOf i).toNat)
  case atStart => exact ⟨0, _, rfl, rfl, Nat.zero_le _, Nat.le_refl _, below_first hb1, nil_app _⟩
  case round =>
    obtain ⟨j, acc, rfl, rfl, hj, hacc, hb0, H⟩ := hrel
    have hz := hb0.size
    by_cases hlt : j < ps.length
    · obtain ⟨bl, off, tao, tcap, rfl, c0, c1, c2, c3, hl, ht⟩ := hp.below hb0 j hlt
      have hd : ps.drop j = ps[j] :: ps.drop (j + 1) := List.drop_eq_getElem_cons hlt
      have hP := allP_get _ _ hall j hlt
      rw [hd] at H
      clear hd hp hall hp1 hb1 k1 hr
      generalize ps[j] = p at *
      have hsz := wPart_size hP
      have HN : Hid ((acc ++ wPart p) ++ wParts (ps.drop (j + 1)) = wParts ps) := by
        show _ = _
        rw [← H.out, app_assoc]; rfl
      clear H
      have ht1 := ht.below (below_alloc wr (.cells #[.int .i64 p.ty, .int .i64 p.bt, .int .i64 p.ln, .slice tao p.ts.length tcap] 35))
      go_wp2_with (go_at_call 30; refine (writePart_any _ _ _ _ hP ht1).mono ?_; rintro e w2 ⟨rfl, hb2⟩)
      go_roundw
      case rel => exact ⟨j + 1, _, by go_num, rfl, by omega, by rw [ByteArray.size_append]; omega, (hb0.alloc (by omega) _).trans (hb2.mono (by simp; omega)), HN⟩
      case measure => simp [intOf]; omega
    · have HN : Hid (wParts ps = acc) := by show _ = _; rw [← H.out, List.drop_of_length_le (by omega)]; exact app_nil _
      clear H hp hall hp1 hb1 k1 hr
      go_wp2
      go_ret2
      exact ⟨by rw [HN.out]; rfl, hb0⟩

theorem encode_no (ps : List Pt) (ao : Option Addr) (cap : Nat) (w : World) (hr : isR ps = false) (hlen : ps.length ≤ 140737488351232) (hp : PartsIn w ao ps) :
    Calls Try.prog 16 #[.agg #[.slice ao ps.length cap]] w fun e w' => e = .returned (.tuple #[.string ⟨#[]⟩, .int .i64 2]) ∧ Below w.heap.size w w' := by
  have hp1 := hp.below (below_alloc w (.cells #[.slice ao ps.length cap] 24))
  go_enter Try.func16, Try.ntmps16
  go_wp2_with (go_at_call 29; refine (isRule_any _ _ _ _ (by omega) hp1).mono ?_; rintro e w1 ⟨rfl, hb1⟩)
  go_ret2
  exact ⟨rfl, below_first hb1⟩
end Go.Proofs.Ytkdcjcemeipkjaa
