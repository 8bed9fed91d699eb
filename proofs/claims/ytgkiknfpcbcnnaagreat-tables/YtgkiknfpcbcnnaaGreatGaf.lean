import Derived.Test.YtgkiknfpcbcnnaaGreatGae
namespace Go.Proofs.YtgkiknfpcbcnnaaGreat
open Go.RowKit
set_option maxRecDepth 20000
theorem RGate.setRL {w w4 : World} {g : Nat} {st : Gs} {F : Nat → Prop} {v u : Value} {rts : List Rt} {qs' : List Sd} (h : RGate w g st F) (hb : Below w.heap.size w w4) (hrr : RRow w4 w.heap.size v rts) (hrow : SRow w4 w.heap.size u qs') (hsd : ∀ s ∈ qs', SdOK w4 (fun b => (F b ∨ (w.heap.size ≤ b ∧ b < w4.heap.size)) ∧ b ≠ g) s) (hok : GsOK { st with rts := rts, rls := qs'.map Sd.r }) :
    RGate ((w4.setCell ⟨g, 6, none⟩ v).setCell ⟨g, 7, none⟩ u) g { st with rts := rts, rls := qs'.map Sd.r } (Fr F w ((w4.setCell ⟨g, 6, none⟩ v).setCell ⟨g, 7, none⟩ u)) ∧ Off F w ((w4.setCell ⟨g, 6, none⟩ v).setCell ⟨g, 7, none⟩ u) := by
  obtain ⟨rv, lv, qs, h1, h2, h3, h4, h5, h6, h7⟩ := h.ex
  have hg := h.lt g h.own
  have hsz : ((w4.setCell ⟨g, 6, none⟩ v).setCell ⟨g, 7, none⟩ u).heap.size = w4.heap.size := by simp only [World.setCell, Array.size_modify]
  have hz := hb.size
  have e1 : w4.heap[g]? = _ := (hb.block g hg).trans h1
  have e2 := heap_setCell_same _ g 7 _ _ u (heap_setCell_same w4 g 6 _ _ v e1)
  have oth : ∀ b, b ≠ g → ((w4.setCell ⟨g, 6, none⟩ v).setCell ⟨g, 7, none⟩ u).heap[b]? = w4.heap[b]? := fun b hne => (Below.heap_setCell _ _ _ _ hne).trans (Below.heap_setCell _ _ _ _ hne)
  have hl : (qs'.map Sd.r).length = qs'.length := List.length_map _
  refine ⟨⟨⟨v, u, qs', e2, ?_, ?_, rfl, ?_, ?_, ?_⟩, .inl h.own, hok, ?_⟩, ((Off.of hb).setCell (.inl h.own) v).setCell (.inl h.own) u⟩
  · exact ownsRow_base (ownsRow_same hrr (fun b hbk => oth b (fun e => by have := (World.ownsRow.lt hrr b hbk).1; omega))) (Nat.zero_le _)
  · show World.ownsRow _ 0 _ 7 u (qs'.map Sd.r).length (sdCs qs')
    rw [hl]
    exact ownsRow_base (ownsRow_same hrow (fun b hbk => oth b (fun e => by have := (World.ownsRow.lt hrow b hbk).1; omega))) (Nat.zero_le _)
  · intro s hs
    refine ((hsd s hs).same (fun b hf => oth b hf.2)).mono (fun b hf => ⟨?_, hf.2⟩)
    rcases hf.1 with hf1 | hf1
    · exact .inl hf1
    · exact .inr ⟨hf1.1, by rw [hsz]; exact hf1.2⟩
  · intro b hbk
    have := World.ownsRow.lt hrr b hbk
    exact ⟨.inr ⟨this.1, by rw [hsz]; exact this.2⟩, by omega⟩
  · intro b hbk
    have := World.ownsRow.lt hrow b hbk
    exact ⟨.inr ⟨this.1, by rw [hsz]; exact this.2⟩, by omega⟩
  · intro b hf
    rcases hf with hf | hf
    · have := h.lt b hf; omega
    · exact hf.2
set_option maxHeartbeats 4000000 in
theorem refReset_any (g : Nat) (st : Gs) (F : Nat → Prop) (pe : Int) (w : World) (h : RGate w g st F) :
    Calls Tryz.prog 32 #[.pointer (some ⟨g, 0, none⟩), .int .i64 pe] w fun e w' => RPost F w g (rsE pe) (rsS st pe) e w' := by
  obtain ⟨i0, hi, hz0, hz1, hz2⟩ := info_parts infoSaid
  obtain ⟨j0, hj, hj0, hj1, hj2⟩ := info_parts infoRoute
  have HR : Hid (RGate w g st F) := h
  obtain ⟨ao, cap, hread, f6, f7⟩ := h.read
  have HG : Hid (GRead w g st.c ao cap st.rts) := hread
  obtain ⟨lo, lc, qs, k7, hqr, hrow0, hsd, _, hgz⟩ := h.said
  have hql : st.rls.length = qs.length := by rw [← hqr, List.length_map]
  rw [hql] at k7 hrow0
  have h24 : qs.length ≤ 24 := by rw [← hql]; exact h.ok.l24
  have HI : Hid (SdIn w lo qs) := SdIn.of hrow0
  have HD : Hid (∀ s ∈ qs, SdOK w (fun b => F b ∧ b ≠ g) s) := hsd
  have HQ : Hid (qs.map Sd.r = st.rls) := hqr
  clear h hqr hsd hql hrow0 hread
  by_cases hpe : pe < 0 ∨ 3 < pe
  · have HX : Hid (rsE pe = 6) := by show _ = _; unfold rsE; rw [peOK_no hpe]; rfl
    have HS : Hid (rsS st pe = st) := by show _ = _; unfold rsS; rw [peOK_no hpe]; rfl
    have hg3 : decide (pe < 0) = true ∨ (decide (pe < 0) = false ∧ decide (3 < pe) = true) := by
      rcases hpe with hp | hp
      · left; simpa using hp
      · right; exact ⟨by simp; omega, by simpa using hp⟩
    clear hpe
    rcases hg3 with g1 | ⟨g1, g2⟩
    all_goals
      go_enter Tryz.func32, Tryz.ntmps32
      go_wp2_with fail
      go_ret
      exact RPost.no HR.out (Below.refl _ _) HX HS
  · have p0 : 0 ≤ pe := by omega
    have p3 : pe ≤ 3 := by omega
    have HX : Hid (rsE pe = 0) := by show _ = _; unfold rsE; rw [peOK_yes p0 p3]; rfl
    have HS : Hid (rsS st pe = { st with rts := st.rts.filter (fun r => !decide (r.pe = pe)), rls := st.rls.filter (fun r => !decide (r.pe = pe)) }) := by show _ = _; unfold rsS; rw [peOK_yes p0 p3]; rfl
    have HO : Hid (GsOK (rsS st pe)) := HR.out.ok.rs pe
    have g1 : decide (pe < 0) = false := by simp; omega
    have g2 : decide (3 < pe) = false := by simp; omega
    clear hpe
    go_enter Tryz.func32, Tryz.ntmps32
    go_wp2_with fail
    go_loopw [5, 6] (fun v x wr => ∃ (i : Nat) (T : List Rt), x = .int .i64 i ∧ i ≤ st.rts.length ∧ RRow wr w.heap.size v T ∧ Hid (T = (st.rts.take i).filter (fun r => !decide (r.pe = pe))) ∧ Below w.heap.size w wr) (fun _ x _ => st.rts.length - (intOf x).toNat)
    case atStart => exact ⟨0, [], rfl, Nat.zero_le _, RRow.nil _ _, rfl, Below.refl _ _⟩
    case round =>
      obtain ⟨i, T, rfl, hil, hrow, HT, hb0⟩ := hrel
      obtain ⟨oo, oc, rfl⟩ := ownsRow_shape hrow
      have hgr := HG.out.below hb0
      have k6 := hgr.rv
      have h24r := hgr.r24
      have hz := hb0.size
      have hTl : T.length ≤ 24 := by
        rw [HT.out]
        refine Nat.le_trans (List.length_filter_le _ _) ?_
        rw [List.length_take]; omega
      by_cases hlt : i < st.rts.length
      · obtain ⟨rk, ro, rfl, bz2, c0, c1, c2, c3⟩ := hgr.rin i hlt
        have hft := filter_take (fun r => !decide (r.pe = pe)) st.rts i hlt
        have HFT : Hid ((st.rts.take (i + 1)).filter (fun r => !decide (r.pe = pe)) = (st.rts.take i).filter (fun r => !decide (r.pe = pe)) ++ (if !decide (st.rts[i].pe = pe) then [st.rts[i]] else [])) := hft
        clear hft
        generalize st.rts[i] = r at *
        obtain ⟨rpe, rbt, rln, rpa⟩ := r
        simp only [] at c0 c1 c2 c3
        by_cases e1 : rpe = pe
        · have HN : Hid (T = (st.rts.take (i + 1)).filter (fun r => !decide (r.pe = pe))) := by
            show _ = _
            rw [HFT.out, ← HT.out]
            simp [e1]
          have q1 : (rpe != pe) = false := by simpa using e1
          clear HFT HT e1
          go_wp2_with fail
          go_roundw
          case rel => exact ⟨i + 1, T, by go_num, by omega, hrow, HN, hb0⟩
          case measure => simp [intOf]; omega
        · have HN : Hid (T ++ [⟨rpe, rbt, rln, rpa⟩] = (st.rts.take (i + 1)).filter (fun r => !decide (r.pe = pe))) := by
            show _ = _
            rw [HFT.out, ← HT.out]
            simp [e1]
          have q1 : (rpe != pe) = true := by simpa using e1
          clear HFT HT e1
          go_wp2_with (at_builtin; refine wpList_append_own _ rfl _ _ 74 rfl w.heap.size 104 j0 _ 4 32 Tryz.underlying74 hj hj0 hj1 hj2 rfl (by decide) (.slice oo T.length oc) T.length (rtCs T) rfl (hrow.alloc _) ⟨wr.heap.size, 0, none⟩ 1 1 (rtC ⟨rpe, rbt, rln, rpa⟩) rfl rfl (World.news_of_block (heap_alloc_new wr _)) (rtC_one _) (by unfold maxLen; omega) (by omega) (by simp; omega) ?_; intro v' w4 hown hgrow _; obtain ⟨ao', cap', rfl⟩ := ownsRow_shape hown)
          go_roundw
          case rel => exact ⟨i + 1, _, by go_num, by omega, RRow.snoc hown, HN, (hb0.alloc hz _).grown hgrow (by simp; omega) (fun k hk => (World.ownsRow.lt hrow k hk).1)⟩
          case measure => simp [intOf]; omega
      · have HTa : Hid (T = st.rts.filter (fun r => !decide (r.pe = pe))) := by show _ = _; rw [HT.out, List.take_of_length_le (by omega)]
        clear HT
        go_wp2_with fail
        obtain ⟨W1, hW1⟩ : ∃ W1, W1 = wr := ⟨_, rfl⟩
        rw [← hW1] at hrow hb0
        have HW1 : Hid (W1 = wr) := hW1
        clear hW1
        go_loopw [7, 8] (fun v x wr2 => ∃ (i2 : Nat) (U : List Sd), x = .int .i64 i2 ∧ i2 ≤ qs.length ∧ SRow wr2 W1.heap.size v U ∧ Hid (U = (qs.take i2).filter (fun s => (fun r : Rl => !decide (r.pe = pe)) s.r)) ∧ Below W1.heap.size W1 wr2) (fun _ x _ => qs.length - (intOf x).toNat)
        case atStart => exact ⟨0, [], rfl, Nat.zero_le _, SRow.nil _ _, rfl, by rw [HW1.out]; exact Below.refl _ _⟩
        case round =>
          clear HW1 k6 hgr
          obtain ⟨i2, U, rfl, hil2, hrow2, HU, hbW⟩ := hrel
          obtain ⟨uo, uc, rfl⟩ := ownsRow_shape hrow2
          have hzW := hbW.size
          have hb02 : Below w.heap.size w wr := hb0.trans (hbW.mono hb0.size)
          have k7w := (hb02.cell (p := ⟨g, 7, none⟩) hgz).trans k7
          have hzz := hb0.size
          have hUl : U.length ≤ 24 := by
            rw [HU.out]
            refine Nat.le_trans (List.length_filter_le _ _) ?_
            rw [List.length_take]; omega
          by_cases hlt2 : i2 < qs.length
          · obtain ⟨rk, ro, rfl, bz2, c0, c1, c2, c3, c4, c5, c6⟩ := HI.out.below hb02 i2 hlt2
            obtain ⟨po, pn, pc, co, cn, cc, hv, hcv⟩ := (HD.out qs[i2] (List.getElem_mem hlt2)).shape
            have hft := sfilter_take (fun s => (fun r : Rl => !decide (r.pe = pe)) s.r) qs i2 hlt2
            have HFT : Hid ((qs.take (i2 + 1)).filter (fun s => (fun r : Rl => !decide (r.pe = pe)) s.r) = (qs.take i2).filter (fun s => (fun r : Rl => !decide (r.pe = pe)) s.r) ++ (if !decide (qs[i2].r.pe = pe) then [qs[i2]] else [])) := hft
            clear hft
            generalize qs[i2] = q at *
            have H1 := sdC_one hv hcv
            have HONE : Hid (∀ u ∈ sdC q, u.oneCell' = true) := H1
            have HC : Hid (sdC q = [.string q.r.tx, .int .i64 q.r.pe, .int .i64 q.r.ac, .slice po pn pc, .string q.ky, .int .i64 (nS (dS q.r.tx) : Nat), .slice co cn cc]) := by show _ = _; unfold sdC; rw [hv, hcv]
            rw [hv] at c3
            rw [hcv] at c6
            clear H1 hv hcv
            by_cases e1 : q.r.pe = pe
            · have HN : Hid (U = (qs.take (i2 + 1)).filter (fun s => (fun r : Rl => !decide (r.pe = pe)) s.r)) := by
                show _ = _
                rw [HFT.out, ← HU.out]
                simp [e1]
              have q1 : (q.r.pe != pe) = false := by simpa using e1
              clear HFT HU e1 HC HONE
              go_wp2_with fail
              go_roundw
              case rel => exact ⟨i2 + 1, U, by go_num, by omega, hrow2, HN, hbW⟩
              case measure => simp [intOf]; omega
            · have HN : Hid (U ++ [q] = (qs.take (i2 + 1)).filter (fun s => (fun r : Rl => !decide (r.pe = pe)) s.r)) := by
                show _ = _
                rw [HFT.out, ← HU.out]
                simp [e1]
              have q1 : (q.r.pe != pe) = true := by simpa using e1
              clear HFT HU e1
              go_wp2_with (at_builtin; refine wpList_append_own _ rfl _ _ 75 rfl W1.heap.size 119 i0 _ 7 104 Tryz.underlying75 hi hz0 hz1 hz2 rfl (by decide) (.slice uo U.length uc) U.length (sdCs U) rfl (hrow2.alloc _) ⟨wr.heap.size, 0, none⟩ 1 1 (sdC q) rfl rfl (by rw [HC.out]; exact World.news_of_block (heap_alloc_new wr _)) HONE.out (by unfold maxLen; omega) (by omega) (by simp; omega) ?_; intro v' w4 hown hgrow _; obtain ⟨ao', cap', rfl⟩ := ownsRow_shape hown)
              go_roundw
              case rel => exact ⟨i2 + 1, _, by go_num, by omega, SRow.snoc hown, HN, (hbW.alloc hzW _).grown hgrow (by simp; omega) (fun k hk => (World.ownsRow.lt hrow2 k hk).1)⟩
              case measure => simp [intOf]; omega
          · have HUa : Hid (U.map Sd.r = st.rls.filter (fun r => !decide (r.pe = pe))) := by
              show _ = _
              rw [HU.out, List.take_of_length_le (by omega)]
              rw [sfilter_map (fun r : Rl => !decide (r.pe = pe)), HQ.out]
            have HUs : Hid (∀ s ∈ U, s ∈ qs) := fun s hs => by rw [HU.out] at hs; exact List.mem_of_mem_take (List.mem_filter.1 hs).1
            have c6 := (hb02.cell (p := ⟨g, 6, none⟩) hgz).trans HG.out.rv
            have f6w := (hb02.frozen (p := ⟨g, 6, none⟩) hgz).trans f6
            have f7w := (hb02.frozen (p := ⟨g, 7, none⟩) hgz).trans f7
            have hrW : RRow wr w.heap.size (.slice oo T.length oc) T := ownsRow_below hrow hbW
            have hset := HR.out.setRL hb02 hrW (ownsRow_base hrow2 hzz) (fun s hs => ((HD.out s (HUs.out s hs)).same (fun b hf => hb02.block b (HR.out.lt b hf.1))).mono (fun b hf => ⟨.inl hf.1, hf.2⟩)) (by rw [HTa.out, HUa.out, ← HS.out]; exact HO.out)
            rw [HTa.out, HUa.out, ← HS.out, ← HTa.out] at hset
            have HSET : Hid (RGate ((wr.setCell ⟨g, 6, none⟩ (.slice oo T.length oc)).setCell ⟨g, 7, none⟩ (.slice uo U.length uc)) g (rsS st pe) (Fr F w ((wr.setCell ⟨g, 6, none⟩ (.slice oo T.length oc)).setCell ⟨g, 7, none⟩ (.slice uo U.length uc))) ∧ Off F w ((wr.setCell ⟨g, 6, none⟩ (.slice oo T.length oc)).setCell ⟨g, 7, none⟩ (.slice uo U.length uc))) := hset
            clear hset HU HTa HUa
            go_wp2_with fail
            go_ret
            exact ⟨by rw [HX.out]; rfl, HSET.out⟩
end Go.Proofs.YtgkiknfpcbcnnaaGreat
