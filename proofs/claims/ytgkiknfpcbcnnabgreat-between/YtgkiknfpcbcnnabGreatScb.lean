import Derived.Test.YtgkiknfpcbcnnabGreatSca
namespace Go.Proofs.YtgkiknfpcbcnnabGreat
open Go.RowKit
set_option maxRecDepth 20000

def SRl (w : World) (B : Nat) (v : Value) (l : List Rl) : Prop := w.ownsRow B 64 3 v l.length (clCs l)
theorem SRl.nil (w : World) (B : Nat) : SRl w B (.slice none 0 0) [] := World.ownsRow_nil _ _ _ _
theorem SRl.snoc {w : World} {B : Nat} {v : Value} {l : List Rl} {q : Rl} (h : w.ownsRow B 64 3 v (l.length + 1) (clCs l ++ clC q)) : SRl w B v (l ++ [q]) := by
  have e : clCs (l ++ [q]) = clCs l ++ clC q := by simp [clCs]
  unfold SRl; rw [e, List.length_append]; exact h
def SRt (w : World) (B : Nat) (v : Value) (l : List Rt) : Prop := w.ownsRow B 69 4 v l.length (rtCs l)
theorem SRt.nil (w : World) (B : Nat) : SRt w B (.slice none 0 0) [] := World.ownsRow_nil _ _ _ _
theorem SRt.snoc {w : World} {B : Nat} {v : Value} {l : List Rt} {q : Rt} (h : w.ownsRow B 69 4 v (l.length + 1) (rtCs l ++ rtC q)) : SRt w B v (l ++ [q]) := by
  have e : rtCs (l ++ [q]) = rtCs l ++ rtC q := by simp [rtCs]
  unfold SRt; rw [e, List.length_append]; exact h

/-- What the law's account has behind a rule that is taken back. -/
def taS (rls : List Rl) (pe : Int) (tx : ByteArray) : List Rl := rls.filter (rlNe pe tx)
theorem reE_of {st : Gs} {pe : Int} {tx : ByteArray} (h1 : peOK pe = true) (h2 : (decS tx).isSome = true) : reE st pe tx = if (st.rls.filter (rlNe pe tx)).length = st.rls.length then 11 else 0 := by unfold reE; rw [if_pos h1, if_pos h2]
theorem filter_all {α : Type} {f : α → Bool} {l : List α} (h : (l.filter f).length = l.length) : l.filter f = l := by
  rw [List.filter_eq_self]
  exact fun a ha => List.length_filter_eq_length_iff.1 h a ha

set_option maxHeartbeats 1600000 in
theorem take_any (X : XGate) {lk : Bool} (HTD : Hid (ToldOK X lk)) {B : Nat} {w : World} {r x : Nat} {c : Cf} {hd : Hd} {gs : Nat → Option Obj} {rts : List Rt} {rls : List Rl} (h : RunI X B w r x c lk hd gs rts rls) (pe : Int) (tx : ByteArray) (h1 : peOK pe = true) (h2 : (decS tx).isSome = true) (hs : tx.size ≤ 140737488351232) :
    Calls Tryz.prog 53 #[.pointer (some ⟨r, 0, none⟩), .int .i64 pe, .string tx] w fun e w' => e = .returned (.tuple #[]) ∧ RunI X B w' r x c lk hd gs rts (taS rls pe tx) ∧ Below B w w' := by
  obtain ⟨i0, hi, hz0, hz1, hz2⟩ := info_parts infoSRl
  obtain ⟨tv, rv, lv, st, F, hj, hsim, htab⟩ := h.ex
  have HTT : Hid (lk = true → tv.T = tabS st) := fun hl => (htab hl).trans (hsim.tabS (X.ok hj.inv).tel).symm
  clear htab
  have HJ : Hid (RunJ X B w r x c lk hd gs tv rv lv rts rls st F) := hj
  have HSM : Hid (Sim st ⟨c, rts, rls⟩) := hsim
  have hok : GsOK ⟨c, rts, rls⟩ := GsOK.sim hsim.symm (X.ok hj.inv)
  have h24 : rls.length ≤ 24 := hok.l24
  obtain ⟨ro, rc, lo, lc, hrv, rfl, c0, c7, c8, c9, c10, hfz, hrin, hcin⟩ := hj.read
  have HC : Hid (ClIn w lo rls) := hcin
  have hrz := hj.lt
  have HRM : Hid (∀ W, Below w.heap.size w W → Calls Tryz.prog 82 #[.pointer (some ⟨x, 0, none⟩), .int .i64 pe, .string tx] W fun e w' => XPostN X.Inv F W x st (if (rls.filter (rlNe pe tx)).length = rls.length then 11 else 0) (reS st pe tx) e w') := fun W hW => by
    have b1 := peOK_bd h1
    have hI : X.Inv W x st F := X.same HJ.out.inv hW.size (fun b hb => hW.block b (X.lt HJ.out.inv b hb))
    have := X.removeN pe tx hI ⟨by omega, by omega⟩ hs
    unfold ptrV at this
    have hE : reE st pe tx = if (rls.filter (rlNe pe tx)).length = rls.length then 11 else 0 := (HSM.out.reE pe tx).trans (reE_of (st := ⟨c, rts, rls⟩) h1 h2)
    rw [hE] at this
    exact this
  have HRS : Hid (Sim (reS st pe tx) (reS ⟨c, rts, rls⟩ pe tx)) := hsim.reS pe tx
  have HRE : Hid (reE ⟨c, rts, rls⟩ pe tx = if (rls.filter (rlNe pe tx)).length = rls.length then 11 else 0) := reE_of (st := ⟨c, rts, rls⟩) h1 h2
  clear h hj hsim hrin hcin c7 c9 c10 hfz hrv hs h1 h2
  go_enter Tryz.func53, Tryz.ntmps53
  go_wp2_with fail
  go_loopw [6, 7] (fun v y wr => ∃ (i : Nat) (T : List Rl), y = .int .i64 i ∧ i ≤ rls.length ∧ SRl wr w.heap.size v T ∧ Hid (T = (rls.take i).filter (rlNe pe tx)) ∧ Below w.heap.size w wr) (fun _ y _ => rls.length - (intOf y).toNat)
  case atStart => exact ⟨0, [], rfl, Nat.zero_le _, SRl.nil _ _, by show _ = _; simp, Below.refl _ _⟩
  case round =>
    obtain ⟨i, T, rfl, hil, hrow, HT, hbel⟩ := hrel
    obtain ⟨oo, oc, rfl⟩ := ownsRow_shape hrow
    have hz := hbel.size
    have k8 := (hbel.cell (p := ⟨r, 8, none⟩) hrz).trans c8
    have hTl : T.length ≤ 24 := by
      rw [HT.out]
      refine Nat.le_trans (List.length_filter_le _ _) ?_
      rw [List.length_take]; omega
    by_cases hlt : i < rls.length
    · obtain ⟨rk, ro', rfl, bz2, d0, d1, d2⟩ := HC.out.below hbel i hlt
      have HFT : Hid ((rls.take (i + 1)).filter (rlNe pe tx) = (rls.take i).filter (rlNe pe tx) ++ (if rlNe pe tx rls[i] then [rls[i]] else [])) := gfilter_take _ rls i hlt
      generalize rls[i] = q at *
      obtain ⟨qtx, qpe, qac⟩ := q
      simp only [] at d0 d1 d2
      have hkeep : ¬ (qpe = pe ∧ qtx = tx) → Hid (T ++ [⟨qtx, qpe, qac⟩] = (rls.take (i + 1)).filter (rlNe pe tx)) := fun hne => by
        show _ = _
        rw [HFT.out, (rlNe_iff pe tx ⟨qtx, qpe, qac⟩).2 hne, ← HT.out]
        rfl
      by_cases e1 : qpe = pe
      · subst e1
        have q0 : (qpe != qpe) = false := by simp
        by_cases e2 : qtx = tx
        · subst e2
          have HN : Hid (T = (rls.take (i + 1)).filter (rlNe qpe qtx)) := by
            show _ = _
            have hno : rlNe qpe qtx ⟨qtx, qpe, qac⟩ = false := by
              cases hh : rlNe qpe qtx ⟨qtx, qpe, qac⟩
              · rfl
              · exact absurd ⟨rfl, rfl⟩ ((rlNe_iff _ _ _).1 hh)
            rw [HFT.out, hno, ← HT.out]
            simp
          clear hkeep HFT HT
          go_wp2_with fail
          go_roundw
          case rel => exact ⟨i + 1, T, by go_num, by omega, hrow, HN, hbel⟩
          case measure => simp [intOf]; omega
        · have HN := hkeep (fun hh => e2 hh.2)
          have q1 := text_ne e2
          clear hkeep HFT HT e2
          go_wp2_with (at_builtin; refine wpList_append_own _ rfl _ _ 31 rfl w.heap.size 64 i0 _ 3 32 Tryz.underlying31 hi hz0 hz1 hz2 rfl (by decide) (.slice oo T.length oc) T.length (clCs T) rfl (hrow.alloc _) ⟨wr.heap.size, 0, none⟩ 1 1 (clC ⟨qtx, qpe, qac⟩) rfl rfl (World.news_of_block (heap_alloc_new wr _)) (clC_one _) (by unfold maxLen; omega) (by omega) (by simp; omega) ?_; intro v' w4 hown hgrow _; obtain ⟨ao', cap', rfl⟩ := ownsRow_shape hown)
          go_roundw
          case rel => exact ⟨i + 1, _, by go_num, by omega, SRl.snoc hown, HN, (hbel.alloc hz _).grown hgrow (by simp; omega) (fun k hk => (World.ownsRow.lt hrow k hk).1)⟩
          case measure => simp [intOf]; omega
      · have HN := hkeep (fun hh => e1 hh.1)
        have q0 : (qpe != pe) = true := by simpa using e1
        clear hkeep HFT HT e1
        go_wp2_with (at_builtin; refine wpList_append_own _ rfl _ _ 31 rfl w.heap.size 64 i0 _ 3 32 Tryz.underlying31 hi hz0 hz1 hz2 rfl (by decide) (.slice oo T.length oc) T.length (clCs T) rfl (hrow.alloc _) ⟨wr.heap.size, 0, none⟩ 1 1 (clC ⟨qtx, qpe, qac⟩) rfl rfl (World.news_of_block (heap_alloc_new wr _)) (clC_one _) (by unfold maxLen; omega) (by omega) (by simp; omega) ?_; intro v' w4 hown hgrow _; obtain ⟨ao', cap', rfl⟩ := ownsRow_shape hown)
        go_roundw
        case rel => exact ⟨i + 1, _, by go_num, by omega, SRl.snoc hown, HN, (hbel.alloc hz _).grown hgrow (by simp; omega) (fun k hk => (World.ownsRow.lt hrow k hk).1)⟩
        case measure => simp [intOf]; omega
    · have HTa : Hid (T = rls.filter (rlNe pe tx)) := by show _ = _; rw [HT.out, List.take_of_length_le (by omega)]
      clear HT
      have k0 := (hbel.cell (p := ⟨r, 0, none⟩) hrz).trans c0
      have HJr : Hid (RunJ X B wr r x c lk hd gs tv rv (.slice lo rls.length lc) rts rls st F) := HJ.out.below hbel
      have HBr : Hid (Below B w wr) := hbel.mono HJ.out.bz
      have HCM := HRM.out wr hbel
      rw [← HTa.out] at HCM
      have HRE2 := HRE.out
      rw [← HTa.out] at HRE2
      by_cases hfull : T.length = rls.length
      · rw [if_pos hfull] at HCM HRE2
        have g5 : ((T.length : Int) == (rls.length : Int)) = true := by simp; omega
        have HMC : Hid (Calls Tryz.prog 82 #[.pointer (some ⟨x, 0, none⟩), .int .i64 pe, .string tx] wr fun e w' => XPostN X.Inv F wr x st 11 (reS st pe tx) e w') := HCM
        have HSA : Hid (taS rls pe tx = rls) := by
          show _ = _
          unfold taS
          exact filter_all (by rw [← HTa.out]; exact hfull)
        have HSS : Hid (Sim (reS st pe tx) ⟨c, rts, rls⟩) := by
          have := HRS.out
          rw [reS_nz (st := ⟨c, rts, rls⟩) (by rw [HRE2]; decide)] at this
          exact this
        clear HCM HRE2 HRM hfull HTa
        go_wp2_with (first
          | (go_at_call 82; refine HMC.out.mono ?_; rintro e w3 ⟨a, n, cc, F', st', rfl, q1, q2, q3, q4, q5⟩; obtain ⟨rfl, qT⟩ := q1.1 (by decide); clear q1; obtain ⟨j3, b3⟩ := HJr.out.call q5 q3 q4)
          | (go_at_call 45; refine (told_no HTD j3 (fun hl => (HTT.out hl).trans qT.symm) a cc 11 (by decide)).mono ?_; rintro e w4 ⟨rfl, tv', j4, t4, b4, o4⟩))
        go_returns
        refine ⟨rfl, RunI.fin (rv := rv) (lv := .slice lo rls.length lc) (tv := tv') (st := st') (F := F') ?_ ?_ t4.1 q2, (HBr.out.trans b3).trans b4⟩
        · rw [HSA.out]; exact j4
        · rw [HSA.out]; exact q2.trans HSS.out
      · rw [if_neg hfull] at HCM HRE2
        have g5 : ((T.length : Int) == (rls.length : Int)) = false := beq_eq_false_iff_ne.2 (by omega)
        have HMC : Hid (Calls Tryz.prog 82 #[.pointer (some ⟨x, 0, none⟩), .int .i64 pe, .string tx] wr fun e w' => XPostN X.Inv F wr x st 0 (reS st pe tx) e w') := HCM
        have HSA : Hid (taS rls pe tx = T) := by show _ = _; rw [HTa.out]; rfl
        have HSS : Hid (Sim (reS st pe tx) ⟨c, rts, T⟩) := by
          have := HRS.out
          unfold reS at this
          rw [if_pos HRE2, ← HTa.out] at this
          unfold reS
          exact this
        have hvb : ∀ b, (Value.slice oo T.length oc).ownBlock = some b → w.heap.size ≤ b ∧ b < wr.heap.size := fun b hb => World.ownsRow.lt hrow b hb
        clear HCM HRE2 HRM hfull HTa
        go_wp2_with (first
          | (go_at_call 82; refine HMC.out.mono ?_; rintro e w3 ⟨a, n, cc, F', st', rfl, q1, q2, q3, q4, q5⟩; obtain ⟨j3, b3⟩ := HJr.out.call q5 q3 q4)
          | (go_at_call 45; refine (told_yes HTD j3 HTT.out a n cc q1).mono ?_; rintro e w4 ⟨rfl, tv', j4, t4, b4, o4⟩; have y8 := cell_of_row w4 r 8 _ _ _ j4.cell; simp only [runC] at y8; have yf := frozen_of_row w4 r 8 _ _ j4.cell))
        go_returns
        have hFn : ∀ b, (Value.slice oo T.length oc).ownBlock = some b → ¬ F b := fun b hb hf => by have := (hvb b hb).1; have := X.lt HJ.out.inv b hf; omega
        have hr4 : w4.ownsRow B 64 3 (.slice oo T.length oc) T.length (clCs T) := ownsRow_base (ownsRow_same hrow (fun b hb => (o4.block b (by have := q5.size; have := (hvb b hb).2; omega) (fun e => by have := (hvb b hb).1; omega)).trans (q5.block b (hvb b hb).2 (hFn b hb)))) HJ.out.bz
        have hfin := j4.setC hr4 (fun b hb => ⟨fun hf => by
          rcases q4 b hf with hf | hf
          · exact hFn b hb hf
          · have := (hvb b hb).2; omega, by have := (hvb b hb).1; omega, fun e => by have := (hvb b hb).1; have := (World.ownsRow.lt HJ.out.rrow b e).2; omega⟩) (fun hl b hk e => by
          rcases t4.2 hl b hk with h | h
          · have := (HJ.out.tlt hl b h).2; have := (hvb b e).1; omega
          · have := (hvb b e).2; have := q5.size; omega) (fun b o hg e => by have := HJ.out.glt hg; have := (hvb b e).1; omega)
        refine ⟨rfl, RunI.fin (rv := rv) (lv := .slice oo T.length oc) (tv := tv') (st := st') (F := F') ?_ ?_ t4.1 q2, ((HBr.out.trans b3).trans b4).setCell (p := ⟨r, 8, none⟩) HJ.out.br _⟩
        · rw [HSA.out]; exact hfin
        · rw [HSA.out]; exact q2.trans HSS.out
end Go.Proofs.YtgkiknfpcbcnnabGreat

namespace Go.Proofs.YtgkiknfpcbcnnabGreat
open Go.RowKit
set_option maxRecDepth 20000

theorem infoSRt : (Tryz.prog.info? 69).map (fun i => (i.zero, i.size, i.bytes)) = some (some (.agg #[.int .i64 0, .int .i64 0, .int .i64 0, .int .i64 0]), 4, 32) := by kernel_rfl

set_option maxHeartbeats 3200000 in
theorem gone_any (X : XGate) {lk : Bool} (HTD : Hid (ToldOK X lk)) {B : Nat} {w : World} {r x : Nat} {c : Cf} {hd : Hd} {gs : Nat → Option Obj} {rts : List Rt} {rls : List Rl} (h : RunI X B w r x c lk hd gs rts rls) (pe : Int) (h1 : peOK pe = true) :
    Calls Tryz.prog 21 #[.pointer (some ⟨r, 0, none⟩), .int .i64 pe] w fun e w' => e = .returned (.tuple #[]) ∧ RunI X B w' r x c lk hd gs (rts.filter fun q => !decide (q.pe = pe)) (rls.filter fun q => !decide (q.pe = pe)) ∧ Below B w w' := by
  obtain ⟨i0, hi, hz0, hz1, hz2⟩ := info_parts infoSRl
  obtain ⟨j0, hj0, hj1, hj2, hj3⟩ := info_parts infoSRt
  obtain ⟨tv, rv, lv, st, F, hj, hsim, htab⟩ := h.ex
  have HTT : Hid (lk = true → tv.T = tabS st) := fun hl => (htab hl).trans (hsim.tabS (X.ok hj.inv).tel).symm
  clear htab
  have HJ : Hid (RunJ X B w r x c lk hd gs tv rv lv rts rls st F) := hj
  have hok : GsOK ⟨c, rts, rls⟩ := GsOK.sim hsim.symm (X.ok hj.inv)
  have h24 : rls.length ≤ 24 := hok.l24
  have r24 : rts.length ≤ 24 := hok.r24
  obtain ⟨ro, rc, lo, lc, rfl, rfl, c0, c7, c8, c9, c10, hfz, hrin, hcin⟩ := hj.read
  have HC : Hid (ClIn w lo rls) := hcin
  have HR : Hid (RtIn w ro rts) := hrin
  have hrz := hj.lt
  have HRM : Hid (∀ W, Below w.heap.size w W → Calls Tryz.prog 44 #[.pointer (some ⟨x, 0, none⟩), .int .i64 pe] W fun e w' => XPostN X.Inv F W x st 0 (rsS st pe) e w') := fun W hW => by
    have b1 := peOK_bd h1
    have hI : X.Inv W x st F := X.same HJ.out.inv hW.size (fun b hb => hW.block b (X.lt HJ.out.inv b hb))
    have := X.resetN pe hI ⟨by omega, by omega⟩
    unfold ptrV at this
    have hE : rsE pe = 0 := by unfold rsE; rw [if_pos h1]
    rw [hE] at this
    exact this
  have HRS : Hid (Sim (rsS st pe) ⟨c, rts.filter (fun q => !decide (q.pe = pe)), rls.filter (fun q => !decide (q.pe = pe))⟩) := by
    have := hsim.rsS pe
    have e : rsS ⟨c, rts, rls⟩ pe = ⟨c, rts.filter (fun q => !decide (q.pe = pe)), rls.filter (fun q => !decide (q.pe = pe))⟩ := by unfold rsS; rw [if_pos h1]
    rw [e] at this
    exact this
  clear h hj hsim hrin hcin c9 c10 hfz h1
  go_enter Tryz.func21, Tryz.ntmps21
  go_wp2_with fail
  go_loopw [4, 5] (fun v y wr => ∃ (i : Nat) (T : List Rt), y = .int .i64 i ∧ i ≤ rts.length ∧ SRt wr w.heap.size v T ∧ Hid (T = (rts.take i).filter fun q => !decide (q.pe = pe)) ∧ Below w.heap.size w wr) (fun _ y _ => rts.length - (intOf y).toNat)
  case atStart => exact ⟨0, [], rfl, Nat.zero_le _, SRt.nil _ _, by show _ = _; simp, Below.refl _ _⟩
  case round =>
    obtain ⟨i, T, rfl, hil, hrow, HT, hbel⟩ := hrel
    obtain ⟨oo, oc, rfl⟩ := ownsRow_shape hrow
    have hz := hbel.size
    have k7 := (hbel.cell (p := ⟨r, 7, none⟩) hrz).trans c7
    have hTl : T.length ≤ 24 := by
      rw [HT.out]
      refine Nat.le_trans (List.length_filter_le _ _) ?_
      rw [List.length_take]; omega
    by_cases hlt : i < rts.length
    · obtain ⟨rk, ro', rfl, bz2, d0, d1, d2, d3⟩ := HR.out.below hbel i hlt
      have HFT : Hid (((rts.take (i + 1)).filter fun q => !decide (q.pe = pe)) = ((rts.take i).filter fun q => !decide (q.pe = pe)) ++ (if !decide (rts[i].pe = pe) then [rts[i]] else [])) := gfilter_take _ rts i hlt
      generalize rts[i] = q at *
      obtain ⟨qpe, qbt, qln, qpa⟩ := q
      simp only [] at d0 d1 d2 d3
      by_cases e1 : qpe = pe
      · have HN : Hid (T = (rts.take (i + 1)).filter fun q => !decide (q.pe = pe)) := by
          show _ = _
          rw [HFT.out, ← HT.out]
          simp [e1]
        have q0 : (qpe != pe) = false := by simp [e1]
        clear HFT HT e1
        go_wp2_with fail
        go_roundw
        case rel => exact ⟨i + 1, T, by go_num, by omega, hrow, HN, hbel⟩
        case measure => simp [intOf]; omega
      · have HN : Hid (T ++ [⟨qpe, qbt, qln, qpa⟩] = (rts.take (i + 1)).filter fun q => !decide (q.pe = pe)) := by
          show _ = _
          rw [HFT.out, ← HT.out]
          simp [e1]
        have q0 : (qpe != pe) = true := by simpa using e1
        clear HFT HT e1
        go_wp2_with (at_builtin; refine wpList_append_own _ rfl _ _ 30 rfl w.heap.size 69 j0 _ 4 32 Tryz.underlying30 hj0 hj1 hj2 hj3 rfl (by decide) (.slice oo T.length oc) T.length (rtCs T) rfl (hrow.alloc _) ⟨wr.heap.size, 0, none⟩ 1 1 (rtC ⟨qpe, qbt, qln, qpa⟩) rfl rfl (World.news_of_block (heap_alloc_new wr _)) (rtC_one _) (by unfold maxLen; omega) (by omega) (by simp; omega) ?_; intro v' w4 hown hgrow _; obtain ⟨ao', cap', rfl⟩ := ownsRow_shape hown)
        go_roundw
        case rel => exact ⟨i + 1, _, by go_num, by omega, SRt.snoc hown, HN, (hbel.alloc hz _).grown hgrow (by simp; omega) (fun k hk => (World.ownsRow.lt hrow k hk).1)⟩
        case measure => simp [intOf]; omega
    · have HTa : Hid (rts.filter (fun q => !decide (q.pe = pe)) = T) := by show _ = _; rw [HT.out, List.take_of_length_le (by omega)]
      clear HT
      have HRS2 := HRS.out
      rw [HTa.out] at HRS2
      have HRSb : Hid (Sim (rsS st pe) ⟨c, T, rls.filter (fun q => !decide (q.pe = pe))⟩) := HRS2
      go_wp2_with fail
      obtain ⟨W1, hW1⟩ : ∃ W1, W1 = wr := ⟨_, rfl⟩
      rw [← hW1] at hrow hbel
      have HW1 : Hid (W1 = wr) := hW1
      clear hW1 k7 hz HRS2 HRS
      have HR1 : Hid (SRt W1 w.heap.size (.slice oo T.length oc) T) := hrow
      clear hrow
      go_loopw [6, 7] (fun v y wr2 => ∃ (i2 : Nat) (U : List Rl), y = .int .i64 i2 ∧ i2 ≤ rls.length ∧ SRl wr2 W1.heap.size v U ∧ Hid (U = (rls.take i2).filter fun q => !decide (q.pe = pe)) ∧ Below W1.heap.size W1 wr2) (fun _ y _ => rls.length - (intOf y).toNat)
      case atStart => exact ⟨0, [], rfl, Nat.zero_le _, SRl.nil _ _, by show _ = _; simp, by rw [HW1.out]; exact Below.refl _ _⟩
      case round =>
        clear HW1
        obtain ⟨i2, U, rfl, hil2, hrow2, HU, hbel2⟩ := hrel
        obtain ⟨uo, uc, rfl⟩ := ownsRow_shape hrow2
        have hzx := hbel.size
        have hzy := hbel2.size
        have hbw : Below w.heap.size w wr := hbel.trans (hbel2.mono hzx)
        have k8 := (hbw.cell (p := ⟨r, 8, none⟩) hrz).trans c8
        have hUl : U.length ≤ 24 := by
          rw [HU.out]
          refine Nat.le_trans (List.length_filter_le _ _) ?_
          rw [List.length_take]; omega
        by_cases hlt2 : i2 < rls.length
        · obtain ⟨rk, ro', rfl, bz2, d0, d1, d2⟩ := HC.out.below hbw i2 hlt2
          have HFT : Hid (((rls.take (i2 + 1)).filter fun q => !decide (q.pe = pe)) = ((rls.take i2).filter fun q => !decide (q.pe = pe)) ++ (if !decide (rls[i2].pe = pe) then [rls[i2]] else [])) := gfilter_take _ rls i2 hlt2
          generalize rls[i2] = q at *
          obtain ⟨qtx, qpe, qac⟩ := q
          simp only [] at d0 d1 d2
          by_cases e1 : qpe = pe
          · have HN : Hid (U = (rls.take (i2 + 1)).filter fun q => !decide (q.pe = pe)) := by
              show _ = _
              rw [HFT.out, ← HU.out]
              simp [e1]
            have q0 : (qpe != pe) = false := by simp [e1]
            clear HFT HU e1
            go_wp2_with fail
            go_roundw
            case rel => exact ⟨i2 + 1, U, by go_num, by omega, hrow2, HN, hbel2⟩
            case measure => simp [intOf]; omega
          · have HN : Hid (U ++ [⟨qtx, qpe, qac⟩] = (rls.take (i2 + 1)).filter fun q => !decide (q.pe = pe)) := by
              show _ = _
              rw [HFT.out, ← HU.out]
              simp [e1]
            have q0 : (qpe != pe) = true := by simpa using e1
            clear HFT HU e1
            go_wp2_with (at_builtin; refine wpList_append_own _ rfl _ _ 31 rfl W1.heap.size 64 i0 _ 3 32 Tryz.underlying31 hi hz0 hz1 hz2 rfl (by decide) (.slice uo U.length uc) U.length (clCs U) rfl (hrow2.alloc _) ⟨wr.heap.size, 0, none⟩ 1 1 (clC ⟨qtx, qpe, qac⟩) rfl rfl (World.news_of_block (heap_alloc_new wr _)) (clC_one _) (by unfold maxLen; omega) (by omega) (by simp; omega) ?_; intro v' w4 hown hgrow _; obtain ⟨ao', cap', rfl⟩ := ownsRow_shape hown)
            go_roundw
            case rel => exact ⟨i2 + 1, _, by go_num, by omega, SRl.snoc hown, HN, (hbel2.alloc hzy _).grown hgrow (by simp; omega) (fun k hk => (World.ownsRow.lt hrow2 k hk).1)⟩
            case measure => simp [intOf]; omega
        · have HUa : Hid (rls.filter (fun q => !decide (q.pe = pe)) = U) := by show _ = _; rw [HU.out, List.take_of_length_le (by omega)]
          clear HU
          have k0 := (hbw.cell (p := ⟨r, 0, none⟩) hrz).trans c0
          have HJr : Hid (RunJ X B wr r x c lk hd gs tv (.slice ro rts.length rc) (.slice lo rls.length lc) rts rls st F) := HJ.out.below hbw
          have HBr : Hid (Below B w wr) := hbw.mono HJ.out.bz
          have HMC : Hid (Calls Tryz.prog 44 #[.pointer (some ⟨x, 0, none⟩), .int .i64 pe] wr fun e w' => XPostN X.Inv F wr x st 0 (rsS st pe) e w') := HRM.out wr hbw
          have hvb : ∀ b, (Value.slice oo T.length oc).ownBlock = some b → w.heap.size ≤ b ∧ b < W1.heap.size := fun b hb => World.ownsRow.lt HR1.out b hb
          have hub : ∀ b, (Value.slice uo U.length uc).ownBlock = some b → W1.heap.size ≤ b ∧ b < wr.heap.size := fun b hb => World.ownsRow.lt hrow2 b hb
          have HR2 : Hid (SRl wr W1.heap.size (.slice uo U.length uc) U) := hrow2
          clear HRM hrow2
          go_wp2_with (first
            | (go_at_call 44; refine HMC.out.mono ?_; rintro e w3 ⟨a, n, cc, F', st', rfl, q1, q2, q3, q4, q5⟩; obtain ⟨j3, b3⟩ := HJr.out.call q5 q3 q4)
            | (go_at_call 45; refine (told_yes HTD j3 HTT.out a n cc q1).mono ?_; rintro e w4 ⟨rfl, tv', j4, t4, b4, o4⟩; have y7 := cell_of_row w4 r 7 _ _ _ j4.cell; have y8 := cell_of_row w4 r 8 _ _ _ j4.cell; simp only [runC] at y7 y8; have yf := frozen_of_row w4 r 7 _ _ j4.cell; have yf8 := frozen_of_row w4 r 8 _ _ j4.cell))
          go_returns
          have hFn : ∀ b, w.heap.size ≤ b → ¬ F b := fun b hb hf => by have := X.lt HJ.out.inv b hf; omega
          have hF' : ∀ b, w.heap.size ≤ b → b < wr.heap.size → ¬ F' b := fun b hb hb2 hf => by
            rcases q4 b hf with hf | hf
            · exact hFn b hb hf
            · omega
          have keep : ∀ b, w.heap.size ≤ b → b < wr.heap.size → w4.heap[b]? = wr.heap[b]? := fun b hb hb2 => (o4.block b (by have := q5.size; omega) (fun e => by omega)).trans (q5.block b hb2 (hFn b hb))
          have hrR : w4.ownsRow B 69 4 (.slice oo T.length oc) T.length (rtCs T) := ownsRow_base (ownsRow_same HR1.out (fun b hb => (keep b (hvb b hb).1 (by have := (hvb b hb).2; omega)).trans (hbel2.block b (hvb b hb).2))) HJ.out.bz
          have hrC : w4.ownsRow B 64 3 (.slice uo U.length uc) U.length (clCs U) := ownsRow_base (ownsRow_same HR2.out (fun b hb => keep b (by have := (hub b hb).1; omega) (hub b hb).2)) (by have := HJ.out.bz; omega)
          have jR := j4.setR hrR (fun b hb => ⟨hF' b (hvb b hb).1 (by have := (hvb b hb).2; omega), by have := (hvb b hb).1; omega, fun e => by have := (hvb b hb).1; have := (World.ownsRow.lt HJ.out.lrow b e).2; omega⟩) (fun hl b hk e => by
            rcases t4.2 hl b hk with h | h
            · have := (HJ.out.tlt hl b h).2; have := (hvb b e).1; omega
            · have := (hvb b e).2; have := q5.size; have := hbel2.size; omega) (fun b o hg e => by have := HJ.out.glt hg; have := (hvb b e).1; omega)
          have hrC' : (w4.setCell ⟨r, 7, none⟩ (.slice oo T.length oc)).ownsRow B 64 3 (.slice uo U.length uc) U.length (clCs U) := ownsRow_same hrC (fun b hb => Below.heap_setCell _ _ _ _ (fun e => by have := (hub b hb).1; show False; have e' : b = r := e; omega))
          have jC := jR.setC hrC' (fun b hb => ⟨hF' b (by have := (hub b hb).1; omega) (hub b hb).2, by have := (hub b hb).1; omega, fun e => by have := (hub b hb).1; have := (hvb b e).2; omega⟩) (fun hl b hk e => by
            rcases t4.2 hl b hk with h | h
            · have := (HJ.out.tlt hl b h).2; have := (hub b e).1; omega
            · have := (hub b e).2; have := q5.size; omega) (fun b o hg e => by have := HJ.out.glt hg; have := (hub b e).1; omega)
          refine ⟨rfl, RunI.fin (rv := .slice oo T.length oc) (lv := .slice uo U.length uc) (tv := tv') (st := st') (F := F') ?_ ?_ t4.1 q2, (((HBr.out.trans b3).trans b4).setCell (p := ⟨r, 7, none⟩) HJ.out.br _).setCell (p := ⟨r, 8, none⟩) HJ.out.br _⟩
          · rw [HTa.out, HUa.out]; exact jC
          · rw [HTa.out, HUa.out]
            have := HRSb.out
            rw [HUa.out] at this
            exact q2.trans this
end Go.Proofs.YtgkiknfpcbcnnabGreat
