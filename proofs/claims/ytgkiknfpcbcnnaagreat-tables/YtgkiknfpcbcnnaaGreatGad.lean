import Derived.Test.YtgkiknfpcbcnnaaGreatGac
namespace Go.Proofs.YtgkiknfpcbcnnaaGreat
open Go.RowKit
set_option maxRecDepth 20000
theorem anS_no {st : Gs} {pe bt ln pa : Int} (h : anE st pe bt ln pa ≠ 0) : anS st pe bt ln pa = st := by unfold anS; rw [if_neg h]
theorem wiS_no {st : Gs} {pe bt ln : Int} (h : wiE st pe bt ln ≠ 0) : wiS st pe bt ln = st := by unfold wiS; rw [if_neg h]
theorem peOK_no {pe : Int} (h : pe < 0 ∨ 3 < pe) : peOK pe = false := by
  unfold peOK
  rcases h with h | h
  · rw [decide_eq_false (p := 0 ≤ pe) (by omega)]; rfl
  · rw [decide_eq_false (p := pe ≤ 3) (by omega), Bool.and_false]
theorem peOK_yes {pe : Int} (h : 0 ≤ pe) (k : pe ≤ 3) : peOK pe = true := by unfold peOK; rw [decide_eq_true h, decide_eq_true k]; rfl
theorem paOK_no {pa : Int} (h : pa < 1 ∨ 255 < pa) : paOK pa = false := by
  unfold paOK
  rcases h with h | h
  · rw [decide_eq_false (p := 1 ≤ pa) (by omega)]; rfl
  · rw [decide_eq_false (p := pa ≤ 255) (by omega), Bool.and_false]
theorem paOK_yes {pa : Int} (h : 1 ≤ pa) (k : pa ≤ 255) : paOK pa = true := by unfold paOK; rw [decide_eq_true h, decide_eq_true k]; rfl
set_option maxHeartbeats 4000000 in
theorem refAnnounce_any (g : Nat) (st : Gs) (F : Nat → Prop) (pe bt ln pa : Int) (w : World) (h : RGate w g st F) :
    Calls Tryz.prog 23 #[.pointer (some ⟨g, 0, none⟩), .int .i64 pe, .agg #[.int .i64 bt, .int .i64 ln], .int .i64 pa] w fun e w' => RPost F w g (anE st pe bt ln pa) (anS st pe bt ln pa) e w' := by
  obtain ⟨i0, hi, hz0, hz1, hz2⟩ := info_parts infoRoute
  have HR : Hid (RGate w g st F) := h
  obtain ⟨ao, cap, hread, f6, _⟩ := h.read
  have HG : Hid (GRead w g st.c ao cap st.rts) := hread
  clear h hread
  by_cases hpe : pe < 0 ∨ 3 < pe
  · have hx : anE st pe bt ln pa = 6 := by unfold anE; rw [peOK_no hpe]; rfl
    have HX : Hid (anE st pe bt ln pa = 6) := hx
    have HS : Hid (anS st pe bt ln pa = st) := anS_no (by omega)
    clear hx
    rcases hpe with hp | hp
    · have g1 : decide (pe < 0) = true := by simpa using hp
      go_enter Tryz.func23, Tryz.ntmps23
      go_wp2_with fail
      refine (prefixOK_any bt ln _).mono ?_
      rintro e w1 ⟨rfl, hb1⟩
      go_wp2_with fail
      go_ret
      exact RPost.no HR.out (below_first hb1) HX HS
    · have g1 : decide (pe < 0) = false := by simp; omega
      have g2 : decide (3 < pe) = true := by simpa using hp
      go_enter Tryz.func23, Tryz.ntmps23
      go_wp2_with fail
      refine (prefixOK_any bt ln _).mono ?_
      rintro e w1 ⟨rfl, hb1⟩
      go_wp2_with fail
      go_ret
      exact RPost.no HR.out (below_first hb1) HX HS
  · have p0 : 0 ≤ pe := by omega
    have p3 : pe ≤ 3 := by omega
    have hpeo := peOK_yes p0 p3
    have g1 : decide (pe < 0) = false := by simp; omega
    have g2 : decide (3 < pe) = false := by simp; omega
    clear hpe
    cases hpf : prefOK bt ln
    · have hx : anE st pe bt ln pa = 7 := by unfold anE; rw [hpeo, hpf]; rfl
      have HX : Hid (anE st pe bt ln pa = 7) := hx
      have HS : Hid (anS st pe bt ln pa = st) := anS_no (by omega)
      clear hx
      go_enter Tryz.func23, Tryz.ntmps23
      go_wp2_with fail
      refine (prefixOK_any bt ln _).mono ?_
      rintro e w1 ⟨rfl, hb1⟩
      rw [hpf]
      go_wp2_with fail
      go_ret
      exact RPost.no HR.out (below_first hb1) HX HS
    · by_cases hpa : pa < 1 ∨ 255 < pa
      · have hx : anE st pe bt ln pa = 8 := by unfold anE; rw [hpeo, hpf, paOK_no hpa]; rfl
        have HX : Hid (anE st pe bt ln pa = 8) := hx
        have HS : Hid (anS st pe bt ln pa = st) := anS_no (by omega)
        clear hx
        have hg3 : decide (pa < 1) = true ∨ (decide (pa < 1) = false ∧ decide (255 < pa) = true) := by
          rcases hpa with hp | hp
          · left; simpa using hp
          · right; exact ⟨by simp; omega, by simpa using hp⟩
        clear hpa
        rcases hg3 with g3 | ⟨g3, g4⟩
        all_goals
          go_enter Tryz.func23, Tryz.ntmps23
          go_wp2_with fail
          refine (prefixOK_any bt ln _).mono ?_
          rintro e w1 ⟨rfl, hb1⟩
          rw [hpf]
          go_wp2_with fail
          go_ret
          exact RPost.no HR.out (below_first hb1) HX HS
      · have a1 : 1 ≤ pa := by omega
        have a2 : pa ≤ 255 := by omega
        have hE : anE st pe bt ln pa = if 24 ≤ (st.rts.filter (rtNe pe bt ln)).length then 10 else 0 := by unfold anE; rw [hpeo, hpf, paOK_yes a1 a2]; rfl
        have HE : Hid (anE st pe bt ln pa = if 24 ≤ (st.rts.filter (rtNe pe bt ln)).length then 10 else 0) := hE
        have g3 : decide (pa < 1) = false := by simp; omega
        have g4 : decide (255 < pa) = false := by simp; omega
        clear hE hpa hpeo
        go_enter Tryz.func23, Tryz.ntmps23
        go_wp2_with fail
        refine (prefixOK_any bt ln _).mono ?_
        rintro e w1 ⟨rfl, hb1⟩
        rw [hpf]
        clear hpf
        go_wp2_with fail
        go_loopw [10, 11] (fun v x wr => ∃ (i : Nat) (T : List Rt), x = .int .i64 i ∧ i ≤ st.rts.length ∧ RRow wr (w.heap.size + 1) v T ∧ Hid (T = (st.rts.take i).filter (rtNe pe bt ln)) ∧ Below (w.alloc (.cells #[.int .i64 bt, .int .i64 ln] 39)).heap.size (w.alloc (.cells #[.int .i64 bt, .int .i64 ln] 39)) wr) (fun _ x _ => st.rts.length - (intOf x).toNat)
        case atStart => exact ⟨0, [], rfl, Nat.zero_le _, RRow.nil _ _, rfl, hb1⟩
        case round =>
          clear hb1
          obtain ⟨i, T, rfl, hil, hrow, HT, hbel⟩ := hrel
          obtain ⟨oo, oc, rfl⟩ := ownsRow_shape hrow
          obtain ⟨b0, b1, bz⟩ := cells_pr hbel
          have hb0 := below_first hbel
          have hgr := HG.out.below hb0
          have k6 := hgr.rv
          have h24 := hgr.r24
          have hz := hbel.size
          simp only [World.size_alloc] at hz
          have hTl : T.length ≤ 24 := by
            rw [HT.out]
            refine Nat.le_trans (List.length_filter_le _ _) ?_
            rw [List.length_take]; omega
          by_cases hlt : i < st.rts.length
          · obtain ⟨rk, ro, rfl, bz2, c0, c1, c2, c3⟩ := hgr.rin i hlt
            have hft := filter_take (rtNe pe bt ln) st.rts i hlt
            have HFT : Hid ((st.rts.take (i + 1)).filter (rtNe pe bt ln) = (st.rts.take i).filter (rtNe pe bt ln) ++ (if rtNe pe bt ln st.rts[i] then [st.rts[i]] else [])) := hft
            clear hft
            generalize st.rts[i] = r at *
            obtain ⟨rpe, rbt, rln, rpa⟩ := r
            simp only [] at c0 c1 c2 c3
            have hcase : (rpe ≠ pe) ∨ (rpe = pe ∧ (rbt ≠ bt ∨ rln ≠ ln)) ∨ (rpe = pe ∧ rbt = bt ∧ rln = ln) := by
              by_cases e1 : rpe = pe
              · by_cases e2 : rbt = bt
                · by_cases e3 : rln = ln
                  · exact .inr (.inr ⟨e1, e2, e3⟩)
                  · exact .inr (.inl ⟨e1, .inr e3⟩)
                · exact .inr (.inl ⟨e1, .inl e2⟩)
              · exact .inl e1
            have hkeep : ¬ (rpe = pe ∧ rbt = bt ∧ rln = ln) → Hid (T ++ [⟨rpe, rbt, rln, rpa⟩] = (st.rts.take (i + 1)).filter (rtNe pe bt ln)) := fun hne => by
              show _ = _
              rw [HFT.out, (rtNe_iff pe bt ln ⟨rpe, rbt, rln, rpa⟩).2 hne, ← HT.out]
              rfl
            rcases hcase with e1 | ⟨e1, e2⟩ | ⟨e1, e2, e3⟩
            · have HN := hkeep (fun h => e1 h.1)
              have q1 : (rpe != pe) = true := by simpa using e1
              clear hkeep HFT HT e1
              go_wp2_with fail
              go_quiet (fail)
              have hbq := below_drewN hbel nq
              have hbw := below_drewN (Below.refl wr.heap.size wr) nq
              have hrq := ownsRow_below hrow hbw
              generalize wr.drewN nq = wq at *
              have hzq := hbq.size
              simp only [World.size_alloc] at hzq
              have hgq := HG.out.below (below_first hbq)
              have k6q := hgq.rv
              have d0 := (hbw.cell (p := ⟨rk, ro + i * 4, none⟩) bz2).trans c0
              have d1 := (hbw.cell (p := ⟨rk, ro + i * 4 + 1, none⟩) bz2).trans c1
              have d2 := (hbw.cell (p := ⟨rk, ro + i * 4 + 2, none⟩) bz2).trans c2
              have d3 := (hbw.cell (p := ⟨rk, ro + i * 4 + 3, none⟩) bz2).trans c3
              clear hgr hgq
              go_wp2_with (at_builtin; refine wpList_append_own _ rfl _ _ 74 rfl (w.heap.size + 1) 104 i0 _ 4 32 Tryz.underlying74 hi hz0 hz1 hz2 rfl (by decide) (.slice oo T.length oc) T.length (rtCs T) rfl (hrq.alloc _) ⟨wq.heap.size, 0, none⟩ 1 1 (rtC ⟨rpe, rbt, rln, rpa⟩) rfl rfl (World.news_of_block (heap_alloc_new wq _)) (rtC_one _) (by unfold maxLen; omega) (by omega) (by simp; omega) ?_; intro v' w4 hown hgrow _; obtain ⟨ao', cap', rfl⟩ := ownsRow_shape hown)
              go_roundw
              case rel => exact ⟨i + 1, _, by go_num, by omega, RRow.snoc hown, HN, (hbq.alloc (by simp; omega) _).grown hgrow (by simp; omega) (fun k hk => by have := (World.ownsRow.lt hrq k hk).1; simp; omega)⟩
              case measure => simp [intOf]; omega
            · have HN := hkeep (fun h => by rcases e2 with e2 | e2; exact e2 h.2.1; exact e2 h.2.2)
              subst e1
              have q1 : (rpe != rpe) = false := by simp
              have q2 : (rbt == bt) = false ∨ (rln == ln) = false := by
                rcases e2 with e2 | e2
                · left; simpa using e2
                · right; simpa using e2
              clear hkeep HFT HT e2
              rcases q2 with q2 | q2
              all_goals
                go_wp2_with fail
                go_quiet (fail)
                have hbq := below_drewN hbel nq
                have hbw := below_drewN (Below.refl wr.heap.size wr) nq
                have hrq := ownsRow_below hrow hbw
                generalize wr.drewN nq = wq at *
                have hzq := hbq.size
                simp only [World.size_alloc] at hzq
                have hgq := HG.out.below (below_first hbq)
                have k6q := hgq.rv
                have d0 := (hbw.cell (p := ⟨rk, ro + i * 4, none⟩) bz2).trans c0
                have d1 := (hbw.cell (p := ⟨rk, ro + i * 4 + 1, none⟩) bz2).trans c1
                have d2 := (hbw.cell (p := ⟨rk, ro + i * 4 + 2, none⟩) bz2).trans c2
                have d3 := (hbw.cell (p := ⟨rk, ro + i * 4 + 3, none⟩) bz2).trans c3
                clear hgr hgq
                go_wp2_with (at_builtin; refine wpList_append_own _ rfl _ _ 74 rfl (w.heap.size + 1) 104 i0 _ 4 32 Tryz.underlying74 hi hz0 hz1 hz2 rfl (by decide) (.slice oo T.length oc) T.length (rtCs T) rfl (hrq.alloc _) ⟨wq.heap.size, 0, none⟩ 1 1 (rtC ⟨rpe, rbt, rln, rpa⟩) rfl rfl (World.news_of_block (heap_alloc_new wq _)) (rtC_one _) (by unfold maxLen; omega) (by omega) (by simp; omega) ?_; intro v' w4 hown hgrow _; obtain ⟨ao', cap', rfl⟩ := ownsRow_shape hown)
                go_roundw
                case rel => exact ⟨i + 1, _, by go_num, by omega, RRow.snoc hown, HN, (hbq.alloc (by simp; omega) _).grown hgrow (by simp; omega) (fun k hk => by have := (World.ownsRow.lt hrq k hk).1; simp; omega)⟩
                case measure => simp [intOf]; omega
            · subst e1
              subst e2
              subst e3
              have HN : Hid (T = (st.rts.take (i + 1)).filter (rtNe rpe rbt rln)) := by
                show _ = _
                have hno : rtNe rpe rbt rln ⟨rpe, rbt, rln, rpa⟩ = false := by
                  cases hh : rtNe rpe rbt rln ⟨rpe, rbt, rln, rpa⟩
                  · rfl
                  · exact absurd ⟨rfl, rfl, rfl⟩ ((rtNe_iff _ _ _ _).1 hh)
                rw [HFT.out, hno, ← HT.out]
                simp
              have q1 : (rpe != rpe) = false := by simp
              clear hkeep HFT HT
              go_wp2_with fail
              go_quiet (fail)
              go_wp2_with fail
              go_roundw
              case rel => exact ⟨i + 1, T, by go_num, by omega, ownsRow_below hrow (below_drewN (Below.refl _ _) _), HN, below_drewN hbel _⟩
              case measure => simp [intOf]; omega
          · have HTa : Hid (T = st.rts.filter (rtNe pe bt ln)) := by show _ = _; rw [HT.out, List.take_of_length_le (by omega)]
            clear HT
            by_cases hfull : 24 ≤ T.length
            · have hx : anE st pe bt ln pa = 10 := by rw [HE.out, ← HTa.out, if_pos hfull]
              have HX : Hid (anE st pe bt ln pa = 10) := hx
              have HS : Hid (anS st pe bt ln pa = st) := anS_no (by omega)
              have g5 : decide ((24 : Int) ≤ (T.length : Int)) = true := by simp; omega
              clear hx HE
              go_wp2_with fail
              go_ret
              exact RPost.no HR.out hb0 HX HS
            · have hx : anE st pe bt ln pa = 0 := by rw [HE.out, ← HTa.out, if_neg hfull]
              have HX : Hid (anE st pe bt ln pa = 0) := hx
              have HS : Hid (anS st pe bt ln pa = { st with rts := T ++ [⟨pe, bt, ln, pa⟩] }) := by show _ = _; unfold anS; rw [if_pos hx, HTa.out]
              have HO : Hid (GsOK (anS st pe bt ln pa)) := HR.out.ok.an pe bt ln pa
              have g5 : decide ((24 : Int) ≤ (T.length : Int)) = false := by simp; omega
              clear hx HE HTa hfull
              go_wp2_with (at_builtin; refine wpList_append_own _ rfl _ _ 74 rfl (w.heap.size + 1) 104 i0 _ 4 32 Tryz.underlying74 hi hz0 hz1 hz2 rfl (by decide) (.slice oo T.length oc) T.length (rtCs T) rfl (hrow.alloc _) ⟨wr.heap.size, 0, none⟩ 1 1 (rtC ⟨pe, bt, ln, pa⟩) rfl rfl (World.news_of_block (heap_alloc_new wr _)) (rtC_one _) (by unfold maxLen; omega) (by omega) (by simp; omega) ?_; intro v' w4 hown hgrow _; obtain ⟨ao', cap', rfl⟩ := ownsRow_shape hown; have hB4 : Below w.heap.size w w4 := (hb0.alloc (by omega) _).grown hgrow (by simp; omega) (fun k hk => by have := (World.ownsRow.lt hrow k hk).1; omega); have c4 := (hB4.cell (p := ⟨g, 6, none⟩) HG.out.lt).trans HG.out.rv; have f4 := (hB4.frozen (p := ⟨g, 6, none⟩) HG.out.lt).trans f6)
              go_ret
              have hset := HR.out.setR hB4 (ownsRow_base (RRow.snoc hown) (Nat.le_succ _)) (by rw [← HS.out]; exact HO.out)
              exact ⟨by rw [HX.out]; rfl, by rw [HS.out]; exact hset.1, hset.2⟩
end Go.Proofs.YtgkiknfpcbcnnaaGreat
namespace Go.Proofs.YtgkiknfpcbcnnaaGreat
open Go.RowKit
set_option maxRecDepth 20000
set_option maxHeartbeats 4000000 in
theorem refWithdraw_any (g : Nat) (st : Gs) (F : Nat → Prop) (pe bt ln : Int) (w : World) (h : RGate w g st F) :
    Calls Tryz.prog 26 #[.pointer (some ⟨g, 0, none⟩), .int .i64 pe, .agg #[.int .i64 bt, .int .i64 ln]] w fun e w' => RPost F w g (wiE st pe bt ln) (wiS st pe bt ln) e w' := by
  obtain ⟨i0, hi, hz0, hz1, hz2⟩ := info_parts infoRoute
  have HR : Hid (RGate w g st F) := h
  obtain ⟨ao, cap, hread, f6, _⟩ := h.read
  have HG : Hid (GRead w g st.c ao cap st.rts) := hread
  clear h hread
  by_cases hpe : pe < 0 ∨ 3 < pe
  · have hx : wiE st pe bt ln = 6 := by unfold wiE; rw [peOK_no hpe]; rfl
    have HX : Hid (wiE st pe bt ln = 6) := hx
    have HS : Hid (wiS st pe bt ln = st) := wiS_no (by omega)
    clear hx
    rcases hpe with hp | hp
    · have g1 : decide (pe < 0) = true := by simpa using hp
      go_enter Tryz.func26, Tryz.ntmps26
      go_wp2_with fail
      refine (prefixOK_any bt ln _).mono ?_
      rintro e w1 ⟨rfl, hb1⟩
      go_wp2_with fail
      go_ret
      exact RPost.no HR.out (below_first hb1) HX HS
    · have g1 : decide (pe < 0) = false := by simp; omega
      have g2 : decide (3 < pe) = true := by simpa using hp
      go_enter Tryz.func26, Tryz.ntmps26
      go_wp2_with fail
      refine (prefixOK_any bt ln _).mono ?_
      rintro e w1 ⟨rfl, hb1⟩
      go_wp2_with fail
      go_ret
      exact RPost.no HR.out (below_first hb1) HX HS
  · have p0 : 0 ≤ pe := by omega
    have p3 : pe ≤ 3 := by omega
    have hpeo := peOK_yes p0 p3
    have g1 : decide (pe < 0) = false := by simp; omega
    have g2 : decide (3 < pe) = false := by simp; omega
    clear hpe
    cases hpf : prefOK bt ln
    · have hx : wiE st pe bt ln = 7 := by unfold wiE; rw [hpeo, hpf]; rfl
      have HX : Hid (wiE st pe bt ln = 7) := hx
      have HS : Hid (wiS st pe bt ln = st) := wiS_no (by omega)
      clear hx
      go_enter Tryz.func26, Tryz.ntmps26
      go_wp2_with fail
      refine (prefixOK_any bt ln _).mono ?_
      rintro e w1 ⟨rfl, hb1⟩
      rw [hpf]
      go_wp2_with fail
      go_ret
      exact RPost.no HR.out (below_first hb1) HX HS
    · · have hE : wiE st pe bt ln = if (st.rts.filter (rtNe pe bt ln)).length = st.rts.length then 11 else 0 := by unfold wiE; rw [hpeo, hpf]; rfl
        have HE : Hid (wiE st pe bt ln = if (st.rts.filter (rtNe pe bt ln)).length = st.rts.length then 11 else 0) := hE
        clear hE hpeo
        go_enter Tryz.func26, Tryz.ntmps26
        go_wp2_with fail
        refine (prefixOK_any bt ln _).mono ?_
        rintro e w1 ⟨rfl, hb1⟩
        rw [hpf]
        clear hpf
        go_wp2_with fail
        go_loopw [8, 9] (fun v x wr => ∃ (i : Nat) (T : List Rt), x = .int .i64 i ∧ i ≤ st.rts.length ∧ RRow wr (w.heap.size + 1) v T ∧ Hid (T = (st.rts.take i).filter (rtNe pe bt ln)) ∧ Below (w.alloc (.cells #[.int .i64 bt, .int .i64 ln] 39)).heap.size (w.alloc (.cells #[.int .i64 bt, .int .i64 ln] 39)) wr) (fun _ x _ => st.rts.length - (intOf x).toNat)
        case atStart => exact ⟨0, [], rfl, Nat.zero_le _, RRow.nil _ _, rfl, hb1⟩
        case round =>
          clear hb1
          obtain ⟨i, T, rfl, hil, hrow, HT, hbel⟩ := hrel
          obtain ⟨oo, oc, rfl⟩ := ownsRow_shape hrow
          obtain ⟨b0, b1, bz⟩ := cells_pr hbel
          have hb0 := below_first hbel
          have hgr := HG.out.below hb0
          have k6 := hgr.rv
          have h24 := hgr.r24
          have hz := hbel.size
          simp only [World.size_alloc] at hz
          have hTl : T.length ≤ 24 := by
            rw [HT.out]
            refine Nat.le_trans (List.length_filter_le _ _) ?_
            rw [List.length_take]; omega
          by_cases hlt : i < st.rts.length
          · obtain ⟨rk, ro, rfl, bz2, c0, c1, c2, c3⟩ := hgr.rin i hlt
            have hft := filter_take (rtNe pe bt ln) st.rts i hlt
            have HFT : Hid ((st.rts.take (i + 1)).filter (rtNe pe bt ln) = (st.rts.take i).filter (rtNe pe bt ln) ++ (if rtNe pe bt ln st.rts[i] then [st.rts[i]] else [])) := hft
            clear hft
            generalize st.rts[i] = r at *
            obtain ⟨rpe, rbt, rln, rpa⟩ := r
            simp only [] at c0 c1 c2 c3
            have hcase : (rpe ≠ pe) ∨ (rpe = pe ∧ (rbt ≠ bt ∨ rln ≠ ln)) ∨ (rpe = pe ∧ rbt = bt ∧ rln = ln) := by
              by_cases e1 : rpe = pe
              · by_cases e2 : rbt = bt
                · by_cases e3 : rln = ln
                  · exact .inr (.inr ⟨e1, e2, e3⟩)
                  · exact .inr (.inl ⟨e1, .inr e3⟩)
                · exact .inr (.inl ⟨e1, .inl e2⟩)
              · exact .inl e1
            have hkeep : ¬ (rpe = pe ∧ rbt = bt ∧ rln = ln) → Hid (T ++ [⟨rpe, rbt, rln, rpa⟩] = (st.rts.take (i + 1)).filter (rtNe pe bt ln)) := fun hne => by
              show _ = _
              rw [HFT.out, (rtNe_iff pe bt ln ⟨rpe, rbt, rln, rpa⟩).2 hne, ← HT.out]
              rfl
            rcases hcase with e1 | ⟨e1, e2⟩ | ⟨e1, e2, e3⟩
            · have HN := hkeep (fun h => e1 h.1)
              have q1 : (rpe != pe) = true := by simpa using e1
              clear hkeep HFT HT e1
              go_wp2_with fail
              go_quiet (fail)
              have hbq := below_drewN hbel nq
              have hbw := below_drewN (Below.refl wr.heap.size wr) nq
              have hrq := ownsRow_below hrow hbw
              generalize wr.drewN nq = wq at *
              have hzq := hbq.size
              simp only [World.size_alloc] at hzq
              have hgq := HG.out.below (below_first hbq)
              have k6q := hgq.rv
              have d0 := (hbw.cell (p := ⟨rk, ro + i * 4, none⟩) bz2).trans c0
              have d1 := (hbw.cell (p := ⟨rk, ro + i * 4 + 1, none⟩) bz2).trans c1
              have d2 := (hbw.cell (p := ⟨rk, ro + i * 4 + 2, none⟩) bz2).trans c2
              have d3 := (hbw.cell (p := ⟨rk, ro + i * 4 + 3, none⟩) bz2).trans c3
              clear hgr hgq
              go_wp2_with (at_builtin; refine wpList_append_own _ rfl _ _ 74 rfl (w.heap.size + 1) 104 i0 _ 4 32 Tryz.underlying74 hi hz0 hz1 hz2 rfl (by decide) (.slice oo T.length oc) T.length (rtCs T) rfl (hrq.alloc _) ⟨wq.heap.size, 0, none⟩ 1 1 (rtC ⟨rpe, rbt, rln, rpa⟩) rfl rfl (World.news_of_block (heap_alloc_new wq _)) (rtC_one _) (by unfold maxLen; omega) (by omega) (by simp; omega) ?_; intro v' w4 hown hgrow _; obtain ⟨ao', cap', rfl⟩ := ownsRow_shape hown)
              go_roundw
              case rel => exact ⟨i + 1, _, by go_num, by omega, RRow.snoc hown, HN, (hbq.alloc (by simp; omega) _).grown hgrow (by simp; omega) (fun k hk => by have := (World.ownsRow.lt hrq k hk).1; simp; omega)⟩
              case measure => simp [intOf]; omega
            · have HN := hkeep (fun h => by rcases e2 with e2 | e2; exact e2 h.2.1; exact e2 h.2.2)
              subst e1
              have q1 : (rpe != rpe) = false := by simp
              have q2 : (rbt == bt) = false ∨ (rln == ln) = false := by
                rcases e2 with e2 | e2
                · left; simpa using e2
                · right; simpa using e2
              clear hkeep HFT HT e2
              rcases q2 with q2 | q2
              all_goals
                go_wp2_with fail
                go_quiet (fail)
                have hbq := below_drewN hbel nq
                have hbw := below_drewN (Below.refl wr.heap.size wr) nq
                have hrq := ownsRow_below hrow hbw
                generalize wr.drewN nq = wq at *
                have hzq := hbq.size
                simp only [World.size_alloc] at hzq
                have hgq := HG.out.below (below_first hbq)
                have k6q := hgq.rv
                have d0 := (hbw.cell (p := ⟨rk, ro + i * 4, none⟩) bz2).trans c0
                have d1 := (hbw.cell (p := ⟨rk, ro + i * 4 + 1, none⟩) bz2).trans c1
                have d2 := (hbw.cell (p := ⟨rk, ro + i * 4 + 2, none⟩) bz2).trans c2
                have d3 := (hbw.cell (p := ⟨rk, ro + i * 4 + 3, none⟩) bz2).trans c3
                clear hgr hgq
                go_wp2_with (at_builtin; refine wpList_append_own _ rfl _ _ 74 rfl (w.heap.size + 1) 104 i0 _ 4 32 Tryz.underlying74 hi hz0 hz1 hz2 rfl (by decide) (.slice oo T.length oc) T.length (rtCs T) rfl (hrq.alloc _) ⟨wq.heap.size, 0, none⟩ 1 1 (rtC ⟨rpe, rbt, rln, rpa⟩) rfl rfl (World.news_of_block (heap_alloc_new wq _)) (rtC_one _) (by unfold maxLen; omega) (by omega) (by simp; omega) ?_; intro v' w4 hown hgrow _; obtain ⟨ao', cap', rfl⟩ := ownsRow_shape hown)
                go_roundw
                case rel => exact ⟨i + 1, _, by go_num, by omega, RRow.snoc hown, HN, (hbq.alloc (by simp; omega) _).grown hgrow (by simp; omega) (fun k hk => by have := (World.ownsRow.lt hrq k hk).1; simp; omega)⟩
                case measure => simp [intOf]; omega
            · subst e1
              subst e2
              subst e3
              have HN : Hid (T = (st.rts.take (i + 1)).filter (rtNe rpe rbt rln)) := by
                show _ = _
                have hno : rtNe rpe rbt rln ⟨rpe, rbt, rln, rpa⟩ = false := by
                  cases hh : rtNe rpe rbt rln ⟨rpe, rbt, rln, rpa⟩
                  · rfl
                  · exact absurd ⟨rfl, rfl, rfl⟩ ((rtNe_iff _ _ _ _).1 hh)
                rw [HFT.out, hno, ← HT.out]
                simp
              have q1 : (rpe != rpe) = false := by simp
              clear hkeep HFT HT
              go_wp2_with fail
              go_quiet (fail)
              go_wp2_with fail
              go_roundw
              case rel => exact ⟨i + 1, T, by go_num, by omega, ownsRow_below hrow (below_drewN (Below.refl _ _) _), HN, below_drewN hbel _⟩
              case measure => simp [intOf]; omega
          · have HTa : Hid (T = st.rts.filter (rtNe pe bt ln)) := by show _ = _; rw [HT.out, List.take_of_length_le (by omega)]
            clear HT
            by_cases hfull : T.length = st.rts.length
            · have hx : wiE st pe bt ln = 11 := by rw [HE.out, ← HTa.out, if_pos hfull]
              have HX : Hid (wiE st pe bt ln = 11) := hx
              have HS : Hid (wiS st pe bt ln = st) := wiS_no (by omega)
              have g5 : ((T.length : Int) == (st.rts.length : Int)) = true := by simp; omega
              clear hx HE hfull HTa
              go_wp2_with fail
              go_ret
              exact RPost.no HR.out hb0 HX HS
            · have hx : wiE st pe bt ln = 0 := by rw [HE.out, ← HTa.out, if_neg hfull]
              have HX : Hid (wiE st pe bt ln = 0) := hx
              have HS : Hid (wiS st pe bt ln = { st with rts := T }) := by show _ = _; unfold wiS; rw [if_pos hx, HTa.out]
              have HO : Hid (GsOK (wiS st pe bt ln)) := HR.out.ok.wi pe bt ln
              have g5 : ((T.length : Int) == (st.rts.length : Int)) = false := by simp; omega
              have f4 := (hb0.frozen (p := ⟨g, 6, none⟩) HG.out.lt).trans f6
              clear hx HE HTa hfull
              go_wp2_with fail
              go_ret
              have hset := HR.out.setR hb0 (ownsRow_base hrow (Nat.le_succ _)) (by rw [← HS.out]; exact HO.out)
              exact ⟨by rw [HX.out]; rfl, by rw [HS.out]; exact hset.1, hset.2⟩
end Go.Proofs.YtgkiknfpcbcnnaaGreat
