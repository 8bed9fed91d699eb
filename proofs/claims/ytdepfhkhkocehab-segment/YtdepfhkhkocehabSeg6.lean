import Derived.Test.YtdepfhkhkocehabSeg5
namespace Go.Proofs.Ytdepfhkhkocehab
open Go.RowKit
set_option maxRecDepth 20000

theorem wiE_of {st : Gs} {pe bt ln : Int} (h1 : peOK pe = true) (h2 : prefOK bt ln = true) : wiE st pe bt ln = if (st.rts.filter (rtNe pe bt ln)).length = st.rts.length then 11 else 0 := by unfold wiE; rw [if_pos h1, if_pos h2]
/-- What the law's account has behind a route that is taken back. -/
def baS (rts : List Rt) (pe bt ln : Int) : List Rt := rts.filter (rtNe pe bt ln)

set_option maxHeartbeats 3200000 in
theorem back1_any (X : XGate) {B : Nat} {w : World} {r x : Nat} {c : Cf} {hd : Hd} {tv : Value} {rts : List Rt} {rls : List Rl} (h : RunI X B w r x c false hd tv rts rls) (pe bt ln : Int) (h1 : peOK pe = true) (h2 : prefOK bt ln = true) :
    Calls Try.prog 25 #[.pointer (some ⟨r, 0, none⟩), .int .i64 pe, .agg #[.int .i64 bt, .int .i64 ln]] w fun e w' => e = .returned (.tuple #[]) ∧ RunI X B w' r x c false hd tv (baS rts pe bt ln) rls ∧ Below B w w' := by
  obtain ⟨i0, hi, hz0, hz1, hz2⟩ := info_parts infoSRt
  obtain ⟨rv, lv, st, F, hj, hsim⟩ := h.ex
  have HJ : Hid (RunJ X B w r x c false hd tv rv lv rts rls st F) := hj
  have HSM : Hid (Sim st ⟨c, rts, rls⟩) := hsim
  have hok : GsOK ⟨c, rts, rls⟩ := GsOK.sim hsim.symm (X.ok hj.inv)
  have h24 : rts.length ≤ 24 := hok.r24
  obtain ⟨ro, rc, lo, lc, rfl, hlv, c0, c7, c8, c9, c10, hfz, hrin, hcin⟩ := hj.read
  have HC : Hid (RtIn w ro rts) := hrin
  have hrz := hj.lt
  have HRM : Hid (∀ W, Below w.heap.size w W → Calls Try.prog 40 #[.pointer (some ⟨x, 0, none⟩), .int .i64 pe, .agg #[.int .i64 bt, .int .i64 ln]] W fun e w' => XPost X.Inv F W x (if (rts.filter (rtNe pe bt ln)).length = rts.length then 11 else 0) (wiS st pe bt ln) e w') := fun W hW => by
    have b1 := peOK_bd h1
    obtain ⟨p0, p1, p2, p3, _⟩ := prefOK_bd h2
    have hI : X.Inv W x st F := X.same HJ.out.inv hW.size (fun b hb => hW.block b (X.lt HJ.out.inv b hb))
    have := X.withdraw pe bt ln hI ⟨by omega, by omega⟩ ⟨by omega, by omega⟩ ⟨by omega, by omega⟩
    unfold ptrV at this
    have hE : wiE st pe bt ln = if (rts.filter (rtNe pe bt ln)).length = rts.length then 11 else 0 := (HSM.out.wiE pe bt ln).trans (wiE_of (st := ⟨c, rts, rls⟩) h1 h2)
    rw [hE] at this
    exact this
  have HRS : Hid (Sim (wiS st pe bt ln) (wiS ⟨c, rts, rls⟩ pe bt ln)) := hsim.wiS pe bt ln
  have HRE : Hid (wiE ⟨c, rts, rls⟩ pe bt ln = if (rts.filter (rtNe pe bt ln)).length = rts.length then 11 else 0) := wiE_of (st := ⟨c, rts, rls⟩) h1 h2
  clear h hj hsim hrin hcin c8 c9 c10 hfz hlv h1 h2
  obtain ⟨W0, hW0⟩ : ∃ W0, W0 = w.alloc (.cells #[.int .i64 bt, .int .i64 ln] 65) := ⟨_, rfl⟩
  have HW0 : Hid (W0 = w.alloc (.cells #[.int .i64 bt, .int .i64 ln] 65)) := hW0
  have hb0 : Below w.heap.size w W0 := by rw [hW0]; exact below_alloc _ _
  have HP0 : Hid (PfVar W0 w.heap.size bt ln) := by show _ = _; rw [hW0]; exact heap_alloc_new w _
  clear hW0
  have hz0w := hb0.size
  have hpz := lt_of_block HP0.out
  go_enter Try.func25, Try.ntmps25
  go_wp2_with fail
  rw [← HW0.out]
  go_loopw [6, 7] (fun v y wr => ∃ (i : Nat) (T : List Rt), y = .int .i64 i ∧ i ≤ rts.length ∧ SRt wr W0.heap.size v T ∧ Hid (T = (rts.take i).filter (rtNe pe bt ln)) ∧ Below W0.heap.size W0 wr) (fun _ y _ => rts.length - (intOf y).toNat)
  case atStart => exact ⟨0, [], rfl, Nat.zero_le _, SRt.nil _ _, by show _ = _; simp, Below.refl _ _⟩
  case round =>
    obtain ⟨i, T, rfl, hil, hrow, HT, hbel⟩ := hrel
    obtain ⟨oo, oc, rfl⟩ := ownsRow_shape hrow
    have hz := hbel.size
    have hbw : Below w.heap.size w wr := hb0.trans (hbel.mono hz0w)
    have k7 := (hbw.cell (p := ⟨r, 7, none⟩) hrz).trans c7
    obtain ⟨p0, p1, _, _⟩ := (HP0.out.below hbel).get
    have hTl : T.length ≤ 24 := by
      rw [HT.out]
      refine Nat.le_trans (List.length_filter_le _ _) ?_
      rw [List.length_take]; omega
    by_cases hlt : i < rts.length
    · obtain ⟨rk, ro', rfl, bz2, d0, d1, d2, d3⟩ := HC.out.below hbw i hlt
      have HFT : Hid ((rts.take (i + 1)).filter (rtNe pe bt ln) = (rts.take i).filter (rtNe pe bt ln) ++ (if rtNe pe bt ln rts[i] then [rts[i]] else [])) := gfilter_take _ rts i hlt
      generalize rts[i] = q at *
      obtain ⟨qpe, qbt, qln, qpa⟩ := q
      simp only [] at d0 d1 d2 d3
      have hkeep : ¬ (qpe = pe ∧ qbt = bt ∧ qln = ln) → Hid (T ++ [⟨qpe, qbt, qln, qpa⟩] = (rts.take (i + 1)).filter (rtNe pe bt ln)) := fun hne => by
        show _ = _
        rw [HFT.out, (rtNe_iff pe bt ln ⟨qpe, qbt, qln, qpa⟩).2 hne, ← HT.out]
        rfl
      by_cases e1 : qpe = pe
      · subst e1
        have q0 : (qpe != qpe) = false := by simp
        by_cases e2 : qbt = bt ∧ qln = ln
        · obtain ⟨rfl, rfl⟩ := e2
          have HN : Hid (T = (rts.take (i + 1)).filter (rtNe qpe qbt qln)) := by
            show _ = _
            have hno : rtNe qpe qbt qln ⟨qpe, qbt, qln, qpa⟩ = false := by
              cases hh : rtNe qpe qbt qln ⟨qpe, qbt, qln, qpa⟩
              · rfl
              · exact absurd ⟨rfl, rfl, rfl⟩ ((rtNe_iff _ _ _ _).1 hh)
            rw [HFT.out, hno, ← HT.out]
            simp
          clear hkeep HFT HT
          go_wp2_with fail
          go_quiet (fail)
          go_wp2_with fail
          go_roundw
          case rel => exact ⟨i + 1, T, by go_num, by omega, ownsRow_below hrow (below_drewN (Below.refl _ _) _), HN, below_drewN hbel _⟩
          case measure => simp [intOf]; omega
        · have HN := hkeep (fun hh => e2 hh.2)
          have q : (qbt == bt) = false ∨ (qln == ln) = false := by
            by_cases xx : qbt = bt
            · right; simp; exact fun y => e2 ⟨xx, y⟩
            · left; simpa using xx
          clear hkeep HFT HT e2
          rcases q with q | q
          all_goals
            go_wp2_with fail
            go_quiet (fail)
            have hbq := below_drewN hbel nq
            have hbwq := below_drewN (Below.refl wr.heap.size wr) nq
            have hrq := ownsRow_below hrow hbwq
            generalize wr.drewN nq = wq at *
            have hzq := hbq.size
            have k7q := (hbwq.cell (p := ⟨r, 7, none⟩) (by show r < wr.heap.size; omega)).trans k7
            have s0 := (hbwq.cell (p := ⟨rk, ro' + i * 4, none⟩) bz2).trans d0
            have s1 := (hbwq.cell (p := ⟨rk, ro' + i * 4 + 1, none⟩) bz2).trans d1
            have s2 := (hbwq.cell (p := ⟨rk, ro' + i * 4 + 2, none⟩) bz2).trans d2
            have s3 := (hbwq.cell (p := ⟨rk, ro' + i * 4 + 3, none⟩) bz2).trans d3
            go_wp2_with (at_builtin; refine wpList_append_own _ rfl _ _ 30 rfl W0.heap.size 69 i0 _ 4 32 Try.underlying30 hi hz0 hz1 hz2 rfl (by decide) (.slice oo T.length oc) T.length (rtCs T) rfl (hrq.alloc _) ⟨wq.heap.size, 0, none⟩ 1 1 (rtC ⟨qpe, qbt, qln, qpa⟩) rfl rfl (World.news_of_block (heap_alloc_new wq _)) (rtC_one _) (by unfold maxLen; omega) (by omega) (by simp; omega) ?_; intro v' w4 hown hgrow _; obtain ⟨ao', cap', rfl⟩ := ownsRow_shape hown)
            go_roundw
            case rel => exact ⟨i + 1, _, by go_num, by omega, SRt.snoc hown, HN, (hbq.alloc hzq _).grown hgrow (by simp; omega) (fun k hk => (World.ownsRow.lt hrq k hk).1)⟩
            case measure => simp [intOf]; omega
      · have HN := hkeep (fun hh => e1 hh.1)
        have q0 : (qpe != pe) = true := by simpa using e1
        clear hkeep HFT HT e1
        go_wp2_with fail
        go_quiet (fail)
        have hbq := below_drewN hbel nq
        have hbwq := below_drewN (Below.refl wr.heap.size wr) nq
        have hrq := ownsRow_below hrow hbwq
        generalize wr.drewN nq = wq at *
        have hzq := hbq.size
        have k7q := (hbwq.cell (p := ⟨r, 7, none⟩) (by show r < wr.heap.size; omega)).trans k7
        have s0 := (hbwq.cell (p := ⟨rk, ro' + i * 4, none⟩) bz2).trans d0
        have s1 := (hbwq.cell (p := ⟨rk, ro' + i * 4 + 1, none⟩) bz2).trans d1
        have s2 := (hbwq.cell (p := ⟨rk, ro' + i * 4 + 2, none⟩) bz2).trans d2
        have s3 := (hbwq.cell (p := ⟨rk, ro' + i * 4 + 3, none⟩) bz2).trans d3
        go_wp2_with (at_builtin; refine wpList_append_own _ rfl _ _ 30 rfl W0.heap.size 69 i0 _ 4 32 Try.underlying30 hi hz0 hz1 hz2 rfl (by decide) (.slice oo T.length oc) T.length (rtCs T) rfl (hrq.alloc _) ⟨wq.heap.size, 0, none⟩ 1 1 (rtC ⟨qpe, qbt, qln, qpa⟩) rfl rfl (World.news_of_block (heap_alloc_new wq _)) (rtC_one _) (by unfold maxLen; omega) (by omega) (by simp; omega) ?_; intro v' w4 hown hgrow _; obtain ⟨ao', cap', rfl⟩ := ownsRow_shape hown)
        go_roundw
        case rel => exact ⟨i + 1, _, by go_num, by omega, SRt.snoc hown, HN, (hbq.alloc hzq _).grown hgrow (by simp; omega) (fun k hk => (World.ownsRow.lt hrq k hk).1)⟩
        case measure => simp [intOf]; omega
    · have HTa : Hid (T = rts.filter (rtNe pe bt ln)) := by show _ = _; rw [HT.out, List.take_of_length_le (by omega)]
      clear HT
      have k0 := (hbw.cell (p := ⟨r, 0, none⟩) hrz).trans c0
      have HJr : Hid (RunJ X B wr r x c false hd tv (.slice ro rts.length rc) lv rts rls st F) := HJ.out.below hbw
      have HBr : Hid (Below B w wr) := hbw.mono HJ.out.bz
      have hrr := HJr.out.lt
      have hpr : w.heap.size < wr.heap.size := by omega
      have hnFr := HJ.out.nF
      have hnFp : ∀ b, w.heap.size ≤ b → ¬ F b := fun b hb hf => by have := X.lt HJ.out.inv _ hf; omega
      have HSX : Hid (∀ w' : World, w'.heap[r]? = wr.heap[r]? → w'.heap[w.heap.size]? = wr.heap[w.heap.size]? → w'.cell? ⟨r, 0, none⟩ = some (.pointer (some ⟨x, 0, none⟩)) ∧ w'.cell? ⟨w.heap.size, 0, none⟩ = some (.int .i64 bt) ∧ w'.cell? ⟨w.heap.size, 1, none⟩ = some (.int .i64 ln)) := fun w' e1 e2 =>
        ⟨(World.cell?_of_block (w := wr) (a := ⟨r, 0, none⟩) e1).trans k0, (World.cell?_of_block (w := wr) (a := ⟨w.heap.size, 0, none⟩) e2).trans p0, (World.cell?_of_block (w := wr) (a := ⟨w.heap.size, 1, none⟩) e2).trans p1⟩
      obtain ⟨er, her⟩ : ∃ er : Int, er = if (rts.filter (rtNe pe bt ln)).length = rts.length then 11 else 0 := ⟨_, rfl⟩
      have HANC : Hid (∀ W, Below wr.heap.size wr W → Calls Try.prog 40 #[.pointer (some ⟨x, 0, none⟩), .int .i64 pe, .agg #[.int .i64 bt, .int .i64 ln]] W fun e w' => ∃ a n k F' st', e = .returned (.tuple #[.slice a n k, .int .i64 er]) ∧ (er ≠ 0 → n = 0) ∧ Sim st' (wiS st pe bt ln) ∧ RunJ X B w' r x c false hd tv (.slice ro rts.length rc) lv rts rls st' F' ∧ Below B wr w' ∧ (∀ b, F' b → F b ∨ wr.heap.size ≤ b) ∧ (∀ b, w.heap.size ≤ b → b < wr.heap.size → w'.heap[b]? = wr.heap[b]?) ∧ wr.heap.size ≤ w'.heap.size ∧ (w'.cell? ⟨r, 0, none⟩ = some (.pointer (some ⟨x, 0, none⟩)) ∧ w'.cell? ⟨w.heap.size, 0, none⟩ = some (.int .i64 bt) ∧ w'.cell? ⟨w.heap.size, 1, none⟩ = some (.int .i64 ln))) := fun W hW => by
        have hc := HRM.out W (hbw.trans (hW.mono hbw.size))
        rw [← her] at hc
        refine hc.mono ?_
        rintro e w' ⟨a, n, k, F', st', rfl, q1, q2, q3, q4, q5⟩
        have jW := HJr.out.below hW
        obtain ⟨j3, b3⟩ := jW.call q5 q3 q4
        have hWz := hW.size
        have e1 : w'.heap[r]? = wr.heap[r]? := (q5.block r (by omega) hnFr).trans (hW.block r hrr)
        have e2 : ∀ b, w.heap.size ≤ b → b < wr.heap.size → w'.heap[b]? = wr.heap[b]? := fun b hb hb2 => (q5.block _ (by omega) (hnFp b hb)).trans (hW.block _ hb2)
        exact ⟨a, n, k, F', st', rfl, q1, q2, j3, (hW.mono HJr.out.bz).trans b3, fun b hf => by rcases q4 b hf with hf | hf; exact .inl hf; exact .inr (by omega), e2, by have := q5.size; omega, HSX.out w' e1 (e2 _ (Nat.le_refl _) hpr)⟩
      have HRE2 := HRE.out
      rw [← her] at HRE2
      rw [← HTa.out] at her
      by_cases hfull : T.length = rts.length
      · obtain rfl : er = 11 := by rw [her, if_pos hfull]
        have g5 : ((T.length : Int) == (rts.length : Int)) = true := by simp; omega
        have HSA : Hid (baS rts pe bt ln = rts) := by
          show _ = _
          unfold baS
          exact filter_all (by rw [← HTa.out]; exact hfull)
        have HSS : Hid (Sim (wiS st pe bt ln) ⟨c, rts, rls⟩) := by
          have := HRS.out
          rw [wiS_nz (st := ⟨c, rts, rls⟩) (by rw [HRE2]; decide)] at this
          exact this
        have HTL : Hid (∀ {w : World} {st : Gs} {F : Nat → Prop} (a : Option Addr) (k : Nat), RunJ X B w r x c false hd tv (.slice ro rts.length rc) lv rts rls st F → Calls Try.prog 37 #[.pointer (some ⟨r, 0, none⟩), .slice a 0 k, .int .i64 11, .int .i64 11] w fun e w' => e = .returned (.bool false) ∧ RunJ X B w' r x c false hd tv (.slice ro rts.length rc) lv rts rls st F ∧ Below B w w') := fun a k hj => told_any X hj a 0 k 11 (fun _ => rfl)
        clear HRE2 HRM hfull HTa her
        go_upto_region 10 with fail
        go_region_held3 (fun w' => w'.cell? ⟨r, 0, none⟩ = some (.pointer (some ⟨x, 0, none⟩)) ∧ w'.cell? ⟨w.heap.size, 0, none⟩ = some (.int .i64 bt) ∧ w'.cell? ⟨w.heap.size, 1, none⟩ = some (.int .i64 ln))
          (first | assumption | exact HSX.out _ rfl rfl)
          (first | (go_at_call 40; refine (HANC.out _ ?_).mono ?_; (exact (Below.refl _ _).drew); rintro e w3 ⟨a, n, cc, F', st', rfl, q1, q2, j3, b3, _, _, _, hS3⟩; obtain rfl := q1 (by decide); clear q1))
        clear hS3
        go_wp2_with (go_at_call 37; refine (HTL.out a cc j3).mono ?_; rintro e w4 ⟨rfl, j4, b4⟩)
        go_returns
        refine ⟨rfl, ⟨.slice ro rts.length rc, lv, st', F', ?_, ?_⟩, (HBr.out.trans b3).trans b4⟩
        · rw [HSA.out]; exact j4
        · rw [HSA.out]; exact q2.trans HSS.out
      · obtain rfl : er = 0 := by rw [her, if_neg hfull]
        have g5 : ((T.length : Int) == (rts.length : Int)) = false := beq_eq_false_iff_ne.2 (by omega)
        have HSA : Hid (baS rts pe bt ln = T) := by show _ = _; rw [HTa.out]; rfl
        have HSS : Hid (Sim (wiS st pe bt ln) ⟨c, T, rls⟩) := by
          have h0 := HRS.out
          have e : wiS ⟨c, rts, rls⟩ pe bt ln = ⟨c, T, rls⟩ := by unfold wiS; rw [if_pos HRE2, ← HTa.out]
          rw [e] at h0
          exact h0
        have HTL : Hid (∀ {w : World} {st : Gs} {F : Nat → Prop} (a : Option Addr) (n k : Nat), RunJ X B w r x c false hd tv (.slice ro rts.length rc) lv rts rls st F → Calls Try.prog 37 #[.pointer (some ⟨r, 0, none⟩), .slice a n k, .int .i64 0, .int .i64 0] w fun e w' => e = .returned (.bool true) ∧ RunJ X B w' r x c false hd tv (.slice ro rts.length rc) lv rts rls st F ∧ Below B w w' ∧ Off (fun b => b = r) w w') := fun a n k hj => told_any2 X hj a n k 0 (fun h => absurd rfl h)
        have hvb : ∀ b, (Value.slice oo T.length oc).ownBlock = some b → W0.heap.size ≤ b ∧ b < wr.heap.size := fun b hb => World.ownsRow.lt hrow b hb
        clear HRE2 HRM hfull HTa her
        go_upto_region 10 with fail
        go_region_held3 (fun w' => w'.cell? ⟨r, 0, none⟩ = some (.pointer (some ⟨x, 0, none⟩)) ∧ w'.cell? ⟨w.heap.size, 0, none⟩ = some (.int .i64 bt) ∧ w'.cell? ⟨w.heap.size, 1, none⟩ = some (.int .i64 ln))
          (first | assumption | exact HSX.out _ rfl rfl)
          (first | (go_at_call 40; refine (HANC.out _ ?_).mono ?_; (exact (Below.refl _ _).drew); rintro e w3 ⟨a, n, cc, F', st', rfl, q1, q2, j3, b3, q4, hk3, hz3, hS3⟩))
        clear q1 hS3
        go_wp2_with (go_at_call 37; refine (HTL.out a n cc j3).mono ?_; rintro e w4 ⟨rfl, j4, b4, o4⟩; have y7 := cell_of_row w4 r 7 _ _ _ j4.cell; simp only [runC] at y7; have yf := frozen_of_row w4 r 7 _ _ j4.cell)
        go_returns
        have hr4 : w4.ownsRow B 69 4 (.slice oo T.length oc) T.length (rtCs T) := ownsRow_base (ownsRow_same hrow (fun b hb => (o4.block b (by have := (hvb b hb).2; omega) (fun e => by have := (hvb b hb).1; omega)).trans (hk3 b (by have := (hvb b hb).1; omega) (hvb b hb).2))) (by have := HJ.out.bz; omega)
        have hfin := j4.setR hr4 (fun b hb => ⟨fun hf => by
          rcases q4 b hf with hf | hf
          · exact hnFp b (by have := (hvb b hb).1; omega) hf
          · have := (hvb b hb).2; omega, by have := (hvb b hb).1; omega, fun e => by have := (hvb b hb).1; have := (World.ownsRow.lt HJ.out.lrow b e).2; omega⟩)
        refine ⟨rfl, ⟨.slice oo T.length oc, lv, st', F', ?_, ?_⟩, ((HBr.out.trans b3).trans b4).setCell (p := ⟨r, 7, none⟩) HJ.out.br _⟩
        · rw [HSA.out]; exact hfin
        · rw [HSA.out]; exact q2.trans HSS.out
end Go.Proofs.Ytdepfhkhkocehab
