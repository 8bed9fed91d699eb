import Derived.Test.YtdepfhkhkocehabSeg2
namespace Go.Proofs.Ytdepfhkhkocehab
open Go.RowKit
set_option maxRecDepth 20000

def SRl (w : World) (B : Nat) (v : Value) (l : List Rl) : Prop := w.ownsRow B 54 3 v l.length (clCs l)
theorem SRl.nil (w : World) (B : Nat) : SRl w B (.slice none 0 0) [] := World.ownsRow_nil _ _ _ _
theorem SRl.snoc {w : World} {B : Nat} {v : Value} {l : List Rl} {q : Rl} (h : w.ownsRow B 54 3 v (l.length + 1) (clCs l ++ clC q)) : SRl w B v (l ++ [q]) := by
  have e : clCs (l ++ [q]) = clCs l ++ clC q := by simp [clCs]
  unfold SRl; rw [e, List.length_append]; exact h
def SRt (w : World) (B : Nat) (v : Value) (l : List Rt) : Prop := w.ownsRow B 69 4 v l.length (rtCs l)
theorem SRt.nil (w : World) (B : Nat) : SRt w B (.slice none 0 0) [] := World.ownsRow_nil _ _ _ _
theorem SRt.snoc {w : World} {B : Nat} {v : Value} {l : List Rt} {q : Rt} (h : w.ownsRow B 69 4 v (l.length + 1) (rtCs l ++ rtC q)) : SRt w B v (l ++ [q]) := by
  have e : rtCs (l ++ [q]) = rtCs l ++ rtC q := by simp [rtCs]
  unfold SRt; rw [e, List.length_append]; exact h

/-- What the law's account has behind a rule that is taken back. -/
def taS (rls : List Rl) (pe : Int) (tx : ByteArray) : List Rl := rls.filter (rlNe pe tx)
theorem reE_of {st : Gs} {pe : Int} {tx : ByteArray} (h1 : peOK pe = true) (h2 : (decS tx).isSome = true) : reE st pe tx = if (st.rls.filter (rlNe pe tx)).length = st.rls.length then 11 else 0 := by unfold reE; rw [if_pos h1, if_pos h2]
theorem filter_all {α : Type} {f : α → Bool} {l : List α} (h : (l.filter f).length = l.length) : l.filter f = l := by
  rw [List.filter_eq_self]
  exact fun a ha => List.length_filter_eq_length_iff.1 h a ha

set_option maxHeartbeats 1600000 in
theorem take_any (X : XGate) {B : Nat} {w : World} {r x : Nat} {c : Cf} {hd : Hd} {tv : Value} {rts : List Rt} {rls : List Rl} (h : RunI X B w r x c false hd tv rts rls) (pe : Int) (tx : ByteArray) (h1 : peOK pe = true) (h2 : (decS tx).isSome = true) (hs : tx.size ≤ 140737488351232) :
    Calls Try.prog 27 #[.pointer (some ⟨r, 0, none⟩), .int .i64 pe, .string tx] w fun e w' => e = .returned (.tuple #[]) ∧ RunI X B w' r x c false hd tv rts (taS rls pe tx) ∧ Below B w w' := by
  obtain ⟨i0, hi, hz0, hz1, hz2⟩ := info_parts infoSRl
  obtain ⟨rv, lv, st, F, hj, hsim⟩ := h.ex
  have HJ : Hid (RunJ X B w r x c false hd tv rv lv rts rls st F) := hj
  have HSM : Hid (Sim st ⟨c, rts, rls⟩) := hsim
  have hok : GsOK ⟨c, rts, rls⟩ := GsOK.sim hsim.symm (X.ok hj.inv)
  have h24 : rls.length ≤ 24 := hok.l24
  obtain ⟨ro, rc, lo, lc, hrv, rfl, c0, c7, c8, c9, c10, hfz, hrin, hcin⟩ := hj.read
  have HC : Hid (ClIn w lo rls) := hcin
  have hrz := hj.lt
  have HRM : Hid (∀ W, Below w.heap.size w W → Calls Try.prog 43 #[.pointer (some ⟨x, 0, none⟩), .int .i64 pe, .string tx] W fun e w' => XPost X.Inv F W x (if (rls.filter (rlNe pe tx)).length = rls.length then 11 else 0) (reS st pe tx) e w') := fun W hW => by
    have b1 := peOK_bd h1
    have hI : X.Inv W x st F := X.same HJ.out.inv hW.size (fun b hb => hW.block b (X.lt HJ.out.inv b hb))
    have := X.remove pe tx hI ⟨by omega, by omega⟩ hs
    unfold ptrV at this
    have hE : reE st pe tx = if (rls.filter (rlNe pe tx)).length = rls.length then 11 else 0 := (HSM.out.reE pe tx).trans (reE_of (st := ⟨c, rts, rls⟩) h1 h2)
    rw [hE] at this
    exact this
  have HRS : Hid (Sim (reS st pe tx) (reS ⟨c, rts, rls⟩ pe tx)) := hsim.reS pe tx
  have HRE : Hid (reE ⟨c, rts, rls⟩ pe tx = if (rls.filter (rlNe pe tx)).length = rls.length then 11 else 0) := reE_of (st := ⟨c, rts, rls⟩) h1 h2
  clear h hj hsim hrin hcin c7 c9 c10 hfz hrv hs h1 h2
  go_enter Try.func27, Try.ntmps27
  go_wp2_with fail
  go_loopw [6, 7] (fun v y wr => ∃ (i : Nat) (T : List Rl), y = .int .i64 i ∧ i ≤ rls.length ∧ SRl wr w.heap.size v T ∧ Hid (T = (rls.take i).filter (rlNe pe tx)) ∧ Below w.heap.size w wr) (fun _ y _ => rls.length - (intOf y).toNat)
  case atStart => exact ⟨0, [], rfl, Nat.zero_le _, SRl.nil _ _, by show _ = _; simp, Below.refl _ _⟩
  case round =>
    obtain ⟨i, T, rfl, hil, hrow, HT, hbel⟩ := hrel
    obtain ⟨oo, oc, rfl⟩ := ownsRow_shape hrow
    have hz := hbel.size
    have k8 := (hbel.cell (p := ⟨r, 8, none⟩) hrz).trans c8
    have hTl : T.length ≤ 24 := by
      rw [HT.out]
      refine Nat.le_trans (List.length_filter_le _ _) ?_
      rw [List.length_take]; omega
    by_cases hlt : i < rls.length
    · obtain ⟨rk, ro', rfl, bz2, d0, d1, d2⟩ := HC.out.below hbel i hlt
      have HFT : Hid ((rls.take (i + 1)).filter (rlNe pe tx) = (rls.take i).filter (rlNe pe tx) ++ (if rlNe pe tx rls[i] then [rls[i]] else [])) := gfilter_take _ rls i hlt
      generalize rls[i] = q at *
      obtain ⟨qtx, qpe, qac⟩ := q
      simp only [] at d0 d1 d2
      have hkeep : ¬ (qpe = pe ∧ qtx = tx) → Hid (T ++ [⟨qtx, qpe, qac⟩] = (rls.take (i + 1)).filter (rlNe pe tx)) := fun hne => by
        show _ = _
        rw [HFT.out, (rlNe_iff pe tx ⟨qtx, qpe, qac⟩).2 hne, ← HT.out]
        rfl
      by_cases e1 : qpe = pe
      · subst e1
        have q0 : (qpe != qpe) = false := by simp
        by_cases e2 : qtx = tx
        · subst e2
          have HN : Hid (T = (rls.take (i + 1)).filter (rlNe qpe qtx)) := by
            show _ = _
            have hno : rlNe qpe qtx ⟨qtx, qpe, qac⟩ = false := by
              cases hh : rlNe qpe qtx ⟨qtx, qpe, qac⟩
              · rfl
              · exact absurd ⟨rfl, rfl⟩ ((rlNe_iff _ _ _).1 hh)
            rw [HFT.out, hno, ← HT.out]
            simp
          clear hkeep HFT HT
          go_wp2_with fail
          go_roundw
          case rel => exact ⟨i + 1, T, by go_num, by omega, hrow, HN, hbel⟩
          case measure => simp [intOf]; omega
        · have HN := hkeep (fun hh => e2 hh.2)
          have q1 := text_ne e2
          clear hkeep HFT HT e2
          go_wp2_with (at_builtin; refine wpList_append_own _ rfl _ _ 31 rfl w.heap.size 54 i0 _ 3 32 Try.underlying31 hi hz0 hz1 hz2 rfl (by decide) (.slice oo T.length oc) T.length (clCs T) rfl (hrow.alloc _) ⟨wr.heap.size, 0, none⟩ 1 1 (clC ⟨qtx, qpe, qac⟩) rfl rfl (World.news_of_block (heap_alloc_new wr _)) (clC_one _) (by unfold maxLen; omega) (by omega) (by simp; omega) ?_; intro v' w4 hown hgrow _; obtain ⟨ao', cap', rfl⟩ := ownsRow_shape hown)
          go_roundw
          case rel => exact ⟨i + 1, _, by go_num, by omega, SRl.snoc hown, HN, (hbel.alloc hz _).grown hgrow (by simp; omega) (fun k hk => (World.ownsRow.lt hrow k hk).1)⟩
          case measure => simp [intOf]; omega
      · have HN := hkeep (fun hh => e1 hh.1)
        have q0 : (qpe != pe) = true := by simpa using e1
        clear hkeep HFT HT e1
        go_wp2_with (at_builtin; refine wpList_append_own _ rfl _ _ 31 rfl w.heap.size 54 i0 _ 3 32 Try.underlying31 hi hz0 hz1 hz2 rfl (by decide) (.slice oo T.length oc) T.length (clCs T) rfl (hrow.alloc _) ⟨wr.heap.size, 0, none⟩ 1 1 (clC ⟨qtx, qpe, qac⟩) rfl rfl (World.news_of_block (heap_alloc_new wr _)) (clC_one _) (by unfold maxLen; omega) (by omega) (by simp; omega) ?_; intro v' w4 hown hgrow _; obtain ⟨ao', cap', rfl⟩ := ownsRow_shape hown)
        go_roundw
        case rel => exact ⟨i + 1, _, by go_num, by omega, SRl.snoc hown, HN, (hbel.alloc hz _).grown hgrow (by simp; omega) (fun k hk => (World.ownsRow.lt hrow k hk).1)⟩
        case measure => simp [intOf]; omega
    · have HTa : Hid (T = rls.filter (rlNe pe tx)) := by show _ = _; rw [HT.out, List.take_of_length_le (by omega)]
      clear HT
      have k0 := (hbel.cell (p := ⟨r, 0, none⟩) hrz).trans c0
      have HJr : Hid (RunJ X B wr r x c false hd tv rv (.slice lo rls.length lc) rts rls st F) := HJ.out.below hbel
      have HBr : Hid (Below B w wr) := hbel.mono HJ.out.bz
      have HCM := HRM.out wr hbel
      rw [← HTa.out] at HCM
      have HRE2 := HRE.out
      rw [← HTa.out] at HRE2
      by_cases hfull : T.length = rls.length
      · rw [if_pos hfull] at HCM HRE2
        have g5 : ((T.length : Int) == (rls.length : Int)) = true := by simp; omega
        have HMC : Hid (Calls Try.prog 43 #[.pointer (some ⟨x, 0, none⟩), .int .i64 pe, .string tx] wr fun e w' => XPost X.Inv F wr x 11 (reS st pe tx) e w') := HCM
        have HSA : Hid (taS rls pe tx = rls) := by
          show _ = _
          unfold taS
          exact filter_all (by rw [← HTa.out]; exact hfull)
        have HSS : Hid (Sim (reS st pe tx) ⟨c, rts, rls⟩) := by
          have := HRS.out
          rw [reS_nz (st := ⟨c, rts, rls⟩) (by rw [HRE2]; decide)] at this
          exact this
        have HTL : Hid (∀ {w : World} {st : Gs} {F : Nat → Prop} (a : Option Addr) (k : Nat), RunJ X B w r x c false hd tv rv (.slice lo rls.length lc) rts rls st F → Calls Try.prog 37 #[.pointer (some ⟨r, 0, none⟩), .slice a 0 k, .int .i64 11, .int .i64 11] w fun e w' => e = .returned (.bool false) ∧ RunJ X B w' r x c false hd tv rv (.slice lo rls.length lc) rts rls st F ∧ Below B w w') := fun a k hj => told_any X hj a 0 k 11 (fun _ => rfl)
        clear HCM HRE2 HRM hfull HTa
        go_wp2_with (first
          | (go_at_call 43; refine HMC.out.mono ?_; rintro e w3 ⟨a, n, cc, F', st', rfl, q1, q2, q3, q4, q5⟩; obtain rfl := q1 (by decide); clear q1; obtain ⟨j3, b3⟩ := HJr.out.call q5 q3 q4)
          | (go_at_call 37; refine (HTL.out a cc j3).mono ?_; rintro e w4 ⟨rfl, j4, b4⟩))
        go_returns
        refine ⟨rfl, ⟨rv, .slice lo rls.length lc, st', F', ?_, ?_⟩, (HBr.out.trans b3).trans b4⟩
        · rw [HSA.out]; exact j4
        · rw [HSA.out]; exact q2.trans HSS.out
      · rw [if_neg hfull] at HCM HRE2
        have g5 : ((T.length : Int) == (rls.length : Int)) = false := beq_eq_false_iff_ne.2 (by omega)
        have HMC : Hid (Calls Try.prog 43 #[.pointer (some ⟨x, 0, none⟩), .int .i64 pe, .string tx] wr fun e w' => XPost X.Inv F wr x 0 (reS st pe tx) e w') := HCM
        have HSA : Hid (taS rls pe tx = T) := by show _ = _; rw [HTa.out]; rfl
        have HSS : Hid (Sim (reS st pe tx) ⟨c, rts, T⟩) := by
          have := HRS.out
          unfold reS at this
          rw [if_pos HRE2, ← HTa.out] at this
          unfold reS
          exact this
        have HTL : Hid (∀ {w : World} {st : Gs} {F : Nat → Prop} (a : Option Addr) (n k : Nat), RunJ X B w r x c false hd tv rv (.slice lo rls.length lc) rts rls st F → Calls Try.prog 37 #[.pointer (some ⟨r, 0, none⟩), .slice a n k, .int .i64 0, .int .i64 0] w fun e w' => e = .returned (.bool true) ∧ RunJ X B w' r x c false hd tv rv (.slice lo rls.length lc) rts rls st F ∧ Below B w w' ∧ Off (fun b => b = r) w w') := fun a n k hj => told_any2 X hj a n k 0 (fun h => absurd rfl h)
        have hvb : ∀ b, (Value.slice oo T.length oc).ownBlock = some b → w.heap.size ≤ b ∧ b < wr.heap.size := fun b hb => World.ownsRow.lt hrow b hb
        clear HCM HRE2 HRM hfull HTa
        go_wp2_with (first
          | (go_at_call 43; refine HMC.out.mono ?_; rintro e w3 ⟨a, n, cc, F', st', rfl, q1, q2, q3, q4, q5⟩; clear q1; obtain ⟨j3, b3⟩ := HJr.out.call q5 q3 q4)
          | (go_at_call 37; refine (HTL.out a n cc j3).mono ?_; rintro e w4 ⟨rfl, j4, b4, o4⟩; have y8 := cell_of_row w4 r 8 _ _ _ j4.cell; simp only [runC] at y8; have yf := frozen_of_row w4 r 8 _ _ j4.cell))
        go_returns
        have hFn : ∀ b, (Value.slice oo T.length oc).ownBlock = some b → ¬ F b := fun b hb hf => by have := (hvb b hb).1; have := X.lt HJ.out.inv b hf; omega
        have hr4 : w4.ownsRow B 54 3 (.slice oo T.length oc) T.length (clCs T) := ownsRow_base (ownsRow_same hrow (fun b hb => (o4.block b (by have := q5.size; have := (hvb b hb).2; omega) (fun e => by have := (hvb b hb).1; omega)).trans (q5.block b (hvb b hb).2 (hFn b hb)))) HJ.out.bz
        have hfin := j4.setC hr4 (fun b hb => ⟨fun hf => by
          rcases q4 b hf with hf | hf
          · exact hFn b hb hf
          · have := (hvb b hb).2; omega, by have := (hvb b hb).1; omega, fun e => by have := (hvb b hb).1; have := (World.ownsRow.lt HJ.out.rrow b e).2; omega⟩)
        refine ⟨rfl, ⟨rv, .slice oo T.length oc, st', F', ?_, ?_⟩, ((HBr.out.trans b3).trans b4).setCell (p := ⟨r, 8, none⟩) HJ.out.br _⟩
        · rw [HSA.out]; exact hfin
        · rw [HSA.out]; exact q2.trans HSS.out
end Go.Proofs.Ytdepfhkhkocehab
