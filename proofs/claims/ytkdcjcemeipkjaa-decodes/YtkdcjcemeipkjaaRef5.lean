import Derived.Test.YtkdcjcemeipkjaaRef4
namespace Go.Proofs.Ytkdcjcemeipkjaa
open Go.RowKit
set_option maxRecDepth 20000

/-- Where ref.Encode's loop stands. -/
structure ESt (ps : List Pt) (j : Nat) (acc : ByteArray) (b : Int) : Prop where
  le : j ≤ ps.length
  size : acc.size ≤ 25 * j
  low : (j : Int) ≤ b
  high : b ≤ 5
  zero : j = 0 → b = 0
  last : ∀ i (h : i < ps.length), i + 1 = j → b = ps[i].ty
  text : acc ++ wParts (ps.drop j) = wParts ps
  rest : allP 0 ps = allP b (ps.drop j)

theorem ESt.start (ps : List Pt) : ESt ps 0 ⟨#[]⟩ 0 := ⟨Nat.zero_le _, Nat.le_refl _, by omega, by omega, fun _ => rfl, fun i _ h => by omega, nil_app _, rfl⟩

theorem ESt.fail {ps : List Pt} {j : Nat} {acc : ByteArray} {b : Int} (h : ESt ps j acc b) (hlt : j < ps.length) (hf : isP ps[j] = false ∨ ps[j].ty ≤ b) : isR ps = false := by
  unfold isR
  rw [h.rest, List.drop_eq_getElem_cons hlt]
  rcases hf with hf | hf
  · simp [allP, hf]
  · simp [allP]; omega

theorem ESt.step {ps : List Pt} {j : Nat} {acc : ByteArray} {b : Int} (h : ESt ps j acc b) (hlt : j < ps.length) (hP : isP ps[j] = true) (hb : b < ps[j].ty) : ESt ps (j + 1) (acc ++ wPart ps[j]) ps[j].ty := by
  have h1 := isP_ty hP
  have h2 := wPart_size hP
  have := h.size
  have := h.low
  have hl : ∀ i (hi : i < ps.length), i + 1 = j + 1 → ps[j].ty = ps[i].ty := by
    intro i hi e
    have e' : i = j := by omega
    subst e'
    rfl
  refine ⟨hlt, by rw [ByteArray.size_append]; omega, by omega, h1.2, fun e => by omega, hl, ?_, ?_⟩
  · rw [← h.text, List.drop_eq_getElem_cons hlt, app_assoc]; rfl
  · rw [h.rest, List.drop_eq_getElem_cons hlt]; simp [allP, hP, hb]

theorem ESt.done {ps : List Pt} {j : Nat} {acc : ByteArray} {b : Int} (h : ESt ps j acc b) (hge : ¬ j < ps.length) : wParts ps = acc ∧ isR ps = decide (0 < ps.length) := by
  have e : ps.drop j = [] := List.drop_of_length_le (by omega)
  constructor
  · rw [← h.text, e]; exact app_nil _
  · unfold isR; rw [h.rest, e]; simp [allP]

def encR (ps : List Pt) : Value := if isR ps then .tuple #[.string (wParts ps), .int .i64 0] else .tuple #[.string ⟨#[]⟩, .int .i64 2]

set_option maxHeartbeats 3200000 in
theorem refEncode_any (ps : List Pt) (ao : Option Addr) (cap : Nat) (w : World) (hlen : ps.length ≤ 140737488351232) (hp : PartsIn w ao ps) :
    Calls Try.prog 17 #[.agg #[.slice ao ps.length cap]] w fun e w' => e = .returned (encR ps) ∧ Below w.heap.size w w' := by
  go_enter Try.func17, Try.ntmps17
  go_wp2
  go_loopw [4, 5] (fun s i wr => ∃ (j : Nat) (acc : ByteArray) (b : Int), i = .int .i64 j ∧ s = .string acc ∧ Below (w.heap.size + 1) (w.alloc (.cells #[.slice ao ps.length cap] 24)) wr ∧ ESt ps j acc b) (fun _ i _ => ps.length - (intOf i).toNat)
  case atStart => exact ⟨0, _, 0, rfl, rfl, Below.refl _ _, ESt.start ps⟩
  case round =>
    obtain ⟨j, acc, b, rfl, rfl, hbel, hst⟩ := hrel
    have hb0 := below_first' hbel
    have hz := hbel.size
    simp only [World.size_alloc] at hz
    have k0 : wr.cell? ⟨w.heap.size, 0, none⟩ = some (.slice ao ps.length cap) := (hbel.cell (by simp)).trans (by simp [go_sem])
    have hj := hst.le
    by_cases hlt : j < ps.length
    · obtain ⟨bl, off, tao, tcap, rfl, c0, c1, c2, c3, hl, ht⟩ := hp.below hb0 j hlt
      have hlb : bl < wr.heap.size := World.block_lt_of_cell? wr _ c0
      have hfail : isP ps[j] = false ∨ ps[j].ty ≤ b → Hid (isR ps = false) := fun h => hst.fail hlt h
      have hstep : isP ps[j] = true → b < ps[j].ty → Hid (ESt ps (j + 1) (acc ++ wPart ps[j]) ps[j].ty) := fun h h' => hst.step hlt h h'
      have hprev : 0 < j → wr.cell? ⟨bl, off + (j - 1) * 4, none⟩ = some (.int .i64 b) := by
        intro hj0
        obtain ⟨bl', off', _, _, e, c0', _⟩ := hp.below hb0 (j - 1) (by omega)
        simp only [Option.some.injEq, Addr.mk.injEq] at e
        obtain ⟨rfl, rfl, _⟩ := e
        rw [c0', hst.last (j - 1) (by omega) (by omega)]
      have hacc := hst.size
      have hlow := hst.low
      have hhigh := hst.high
      have hzero := hst.zero
      clear hp hst
      generalize ps[j] = p at *
      cases hP : isP p
      · have HF := hfail (.inl hP)
        clear hfail hstep hprev hzero
        go_wp2_with (go_at_call 31; refine (partOK_any _ _ _ _ ht).mono ?_; rintro e w1 ⟨rfl, hb1⟩; obtain ⟨hcc, hff⟩ := bcell hb1)
        go_quiet (fail)
        go_wp2
        go_ret2
        refine ⟨?_, below_drewN (hb0.trans (hb1.mono (by omega))) _⟩
        unfold encR; rw [HF.out]; rfl
      · have hzz : w.heap.size < wr.heap.size := by omega
        have hsz := wPart_size hP
        by_cases hj0 : j = 0
        · have hb : b < p.ty := by have := isP_ty hP; have := hzero hj0; omega
          have HS := hstep hP hb
          have d0 : decide (0 < j) = false := by simp; omega
          clear hfail hstep hprev hzero hj0
          go_wp2_with (go_at_call 31; refine (partOK_any _ _ _ _ ht).mono ?_; rintro e w1 ⟨rfl, hb1⟩; obtain ⟨hcc, hff⟩ := bcell hb1)
          go_quiet (fail)
          go_wp2_with (go_at_call 32; refine (written_any _ _ _ _ hP (by exact (ht.below hb1).below (below_drewN (Below.refl _ _) _))).mono ?_; rintro e w2 ⟨rfl, hb2⟩)
          go_roundw
          case rel => exact ⟨j + 1, _, p.ty, by go_num, rfl, (below_drewN (hbel.trans (hb1.mono (by omega))) _).trans (hb2.mono (by have := hb1.size; show _ ≤ w1.heap.size; omega)), HS.out⟩
          case measure => simp [intOf]; omega
        · have d0 : decide (0 < j) = true := by simp; omega
          have cp := hprev (by omega)
          have j1 : (1 : Int) ≤ j := by omega
          by_cases hb : p.ty ≤ b
          · have HF := hfail (.inr hb)
            have d1 : decide (p.ty ≤ b) = true := by simpa using hb
            clear hfail hstep hprev hzero
            go_wp2_with (go_at_call 31; refine (partOK_any _ _ _ _ ht).mono ?_; rintro e w1 ⟨rfl, hb1⟩; obtain ⟨hcc, hff⟩ := bcell hb1)
            go_quiet (fail)
            go_wp2
            go_ret2
            refine ⟨?_, below_drewN (hb0.trans (hb1.mono (by omega))) _⟩
            unfold encR; rw [HF.out]; rfl
          · have HS := hstep hP (by omega)
            have d1 : decide (p.ty ≤ b) = false := by simpa using hb
            clear hfail hstep hprev hzero
            go_wp2_with (go_at_call 31; refine (partOK_any _ _ _ _ ht).mono ?_; rintro e w1 ⟨rfl, hb1⟩; obtain ⟨hcc, hff⟩ := bcell hb1)
            go_quiet (fail)
            go_wp2_with (go_at_call 32; refine (written_any _ _ _ _ hP (by exact (ht.below hb1).below (below_drewN (Below.refl _ _) _))).mono ?_; rintro e w2 ⟨rfl, hb2⟩)
            go_roundw
            case rel => exact ⟨j + 1, _, p.ty, by go_num, rfl, (below_drewN (hbel.trans (hb1.mono (by omega))) _).trans (hb2.mono (by have := hb1.size; show _ ≤ w1.heap.size; omega)), HS.out⟩
            case measure => simp [intOf]; omega
    · obtain ⟨e1, e2⟩ := hst.done hlt
      have HE : Hid (wParts ps = acc) := e1
      have HR : Hid (isR ps = decide (0 < ps.length)) := e2
      clear hp hst e1 e2
      by_cases h0 : ps.length = 0
      · have d0 : ((ps.length : Int) == 0) = true := by simp; exact List.length_eq_zero_iff.1 h0
        have HF : Hid (isR ps = false) := by show isR ps = _; rw [HR.out, h0]; rfl
        clear h0 HR
        go_wp2
        go_ret2
        refine ⟨?_, hb0⟩
        unfold encR; rw [HF.out]; rfl
      · have d0 : ((ps.length : Int) == 0) = false := by simp; intro h; exact h0 (by rw [h]; rfl)
        have HF : Hid (isR ps = true) := by show isR ps = _; rw [HR.out]; simp; omega
        clear h0 HR
        go_wp2
        go_ret2
        refine ⟨?_, hb0⟩
        unfold encR; rw [HF.out, HE.out]; rfl
end Go.Proofs.Ytkdcjcemeipkjaa
