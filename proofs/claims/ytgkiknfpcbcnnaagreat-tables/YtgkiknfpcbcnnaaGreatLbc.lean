import Derived.Test.YtgkiknfpcbcnnaaGreatLbb
import Derived.Deep.RegionHeld3
import Derived.Deep.Cut
namespace Go.Proofs.YtgkiknfpcbcnnaaGreat
open Go.RowKit
set_option maxRecDepth 20000
theorem below_allocS {w w' : World} (h : Below w.heap.size w w') (o : Obj) : Below w.heap.size w (w'.alloc o) := h.alloc h.size o
theorem below_set2 {w w' : World} {g : Nat} (h : Below w.heap.size w w') (hg : w.heap.size ≤ g) (a b : Value) : Below w.heap.size w ((w'.setCell ⟨g, 0, none⟩ a).setCell ⟨g, 1, none⟩ b) := below_setCells [a, b] 0 h hg
theorem pf_first {w2 w3 : World} (h : Below (w2.alloc (.cells #[.int .i64 0, .int .i64 0] 39)).drew.heap.size (w2.alloc (.cells #[.int .i64 0, .int .i64 0] 39)).drew w3) : PfVar w3 w2.heap.size 0 0 :=
  (h.block w2.heap.size (by simp)).trans (heap_alloc_new w2 _)
set_option maxHeartbeats 1600000 in
theorem holds_no (g : Nat) (c : Cf) (rts : List Rt) (r : Rl) (w : World) (hd : (decS r.tx).isSome = true) (hs : r.tx.size ≤ 140737488351232) (hty : (p0S r.tx).ty ≠ 1) :
    Calls Tryz.prog 85 #[.pointer (some ⟨g, 0, none⟩), .agg #[.int .i64 r.pe, .string r.tx, .int .i64 r.ac]] w fun e w' => e = .returned (.bool (holdS c rts r)) ∧ Below w.heap.size w w' := by
  have HF : Hid (holdS c rts r = false) := by
    show holdsP c rts (p0S r.tx) r.pe = false
    unfold holdsP
    rw [decide_eq_false hty]
    rfl
  have HD : Hid (∀ w, Calls Tryz.prog 103 #[.string r.tx] w fun e w' => e = .returned (.tuple #[.agg #[.int .i64 (dsB r.tx), .int .i64 (dsL r.tx)], .bool false]) ∧ Below w.heap.size w w') := fun w => by
    have := destination_any r.tx w hd hs
    rw [decide_eq_false hty] at this
    exact this
  clear hty
  generalize dsB r.tx = bt at *
  generalize dsL r.tx = ln at *
  go_enter Tryz.func85, Tryz.ntmps85
  go_wp2_with fail
  refine (HD.out _).mono ?_
  rintro e w1 ⟨rfl, hb1⟩
  have hbw := below_first hb1
  go_wp2_with fail
  go_ret
  exact ⟨by rw [HF.out]; rfl, hbw.alloc hbw.size _⟩
set_option maxHeartbeats 3200000 in
theorem holds_yes (g : Nat) (c : Cf) (ao : Option Addr) (cap : Nat) (rts : List Rt) (r : Rl) (w : World) (hg : GRead w g c ao cap rts) (hpe : peOK r.pe = true) (hd : (decS r.tx).isSome = true) (hs : r.tx.size ≤ 140737488351232) (hty : (p0S r.tx).ty = 1) :
    Calls Tryz.prog 85 #[.pointer (some ⟨g, 0, none⟩), .agg #[.int .i64 r.pe, .string r.tx, .int .i64 r.ac]] w fun e w' => e = .returned (.bool (holdS c rts r)) ∧ Below w.heap.size w w' := by
  have hpr := p0S_pref (dS_ne hd) hty
  have HD : Hid (∀ w, Calls Tryz.prog 103 #[.string r.tx] w fun e w' => e = .returned (.tuple #[.agg #[.int .i64 (p0S r.tx).bt, .int .i64 (p0S r.tx).ln], .bool true]) ∧ Below w.heap.size w w') := fun w => by
    have := destination_any r.tx w hd hs
    unfold dsB dsL at this
    rw [decide_eq_true hty, if_pos hty, if_pos hty] at this
    exact this
  obtain ⟨R, hR⟩ : ∃ R, R = holdS c rts r := ⟨_, rfl⟩
  have HR : Hid (R = holdL c rts (p0S r.tx).bt (p0S r.tx).ln r.pe) := by
    show _ = _
    rw [hR, holdL_eq hg.ok hty hpr hpe]
    rfl
  rw [← hR]
  clear hR hty hd hs hpe
  have HPR : Hid (prefOK (p0S r.tx).bt (p0S r.tx).ln = true) := hpr
  clear hpr
  generalize (p0S r.tx).bt = bt at *
  generalize (p0S r.tx).ln = ln at *
  obtain ⟨tx, pe, ac⟩ := r
  simp only [] at HD HR ⊢
  have HG : Hid (GRead w g c ao cap rts) := hg
  have h24 := hg.r24
  have hgz := hg.lt
  clear hg
  obtain ⟨wA, hwA⟩ : ∃ wA, wA = w.alloc (.cells #[.int .i64 pe, .string tx, .int .i64 ac] 110) := ⟨_, rfl⟩
  have HWA : Hid (wA = w.alloc (.cells #[.int .i64 pe, .string tx, .int .i64 ac] 110)) := hwA
  have hbA : Below w.heap.size w wA := by rw [hwA]; exact below_alloc _ _
  have hcA : wA.heap[w.heap.size]? = some (.cells #[.int .i64 pe, .string tx, .int .i64 ac] 110 (0, 0)) := by rw [hwA]; exact heap_alloc_new w _
  clear hwA
  have hzA := lt_of_block hcA
  go_enter Tryz.func85, Tryz.ntmps85
  go_wp2_with fail
  rw [← HWA.out]
  refine (HD.out _).mono ?_
  rintro e w1 ⟨rfl, hb1⟩
  obtain ⟨w2, hw2⟩ : ∃ w2, w2 = w1.alloc (.cells #[.int .i64 bt, .int .i64 ln] 39) := ⟨_, rfl⟩
  have HW2 : Hid (w2 = w1.alloc (.cells #[.int .i64 bt, .int .i64 ln] 39)) := hw2
  have hb2 : Below w1.heap.size w1 w2 := by rw [hw2]; exact below_alloc _ _
  have HN2 : Hid (PfVar w2 w1.heap.size bt ln) := by show _ = _; rw [hw2]; exact heap_alloc_new w1 _
  clear hw2
  have hz1 := hb1.size
  have hz2 := hb2.size
  have hbw2 : Below w.heap.size w w2 := (hbA.trans (hb1.mono (by omega))).trans (hb2.mono (by omega))
  have cpe := cell_of_row w2 w.heap.size 0 _ _ _ (((hb2.mono hz1).block w.heap.size hzA).trans ((hb1.block w.heap.size hzA).trans hcA))
  have hg2 := HG.out.below hbw2
  have hnet2 := hg2.net
  have c6 := hg2.rv
  rw [HW2.out] at cpe
  clear hg2
  obtain ⟨n0, n1, nf0, nf1⟩ := HN2.out.get
  go_upto_region 5 with (first
    | (go_at_call 104; rw [← HW2.out]; refine (networkOf_any g c pe _ hnet2).mono ?_; rintro e w' ⟨rfl, rfl⟩))
  obtain ⟨L, hL⟩ : ∃ L, L = lcF bt ln ⟨false, 0, 0⟩ rts := ⟨_, rfl⟩
  have HL : Hid (L = lcF bt ln ⟨false, 0, 0⟩ rts) := hL
  have HLC : Hid (∀ W, Below w2.heap.size w2 W → Calls Tryz.prog 105 #[.slice ao rts.length cap, .agg #[.int .i64 bt, .int .i64 ln]] W fun e w' => e = .returned (.tuple #[.agg #[.int .i64 L.bt, .int .i64 L.ln], .bool L.fd]) ∧ Below w2.heap.size w2 w' ∧ Below W.heap.size W w') := fun W hW => by
    refine (longestCover_any ao cap rts bt ln W ((HG.out.below hbw2).rin.below hW) h24 HG.out.ok HPR.out).mono ?_
    rintro e w' ⟨rfl, hb'⟩
    rw [hL]
    exact ⟨rfl, hW.trans (hb'.mono hW.size), hb'⟩
  clear hL
  have HS : Hid (∀ w', Below w2.heap.size w2 w' → w'.cell? ⟨g, 6, none⟩ = some (.slice ao rts.length cap) ∧ w'.cell? ⟨w1.heap.size, 0, none⟩ = some (.int .i64 bt) ∧ w'.cell? ⟨w1.heap.size, 1, none⟩ = some (.int .i64 ln) ∧ Below w2.heap.size w2 w') := fun w' hx =>
    ⟨(hx.cell (p := ⟨g, 6, none⟩) (by show g < w2.heap.size; omega)).trans c6, (hx.cell (p := ⟨w1.heap.size, 0, none⟩) (lt_of_block HN2.out)).trans n0, (hx.cell (p := ⟨w1.heap.size, 1, none⟩) (lt_of_block HN2.out)).trans n1, hx⟩
  have HB2 : Hid (Below w.heap.size w w2) := hbw2
  clear cpe hnet2 c6 n0 n1 nf0 nf1 hb1 hb2 hbA hcA hbw2
  go_cut [6, 8] from 23 (fun s6 s8 wc => ∃ B, s6 = .bool L.fd ∧ s8 = .pointer (some ⟨B, 0, none⟩) ∧ Hid (PfVar wc B L.bt L.ln) ∧ Below w2.heap.size w2 wc)
  case first =>
    go_region_held3 (fun w' => w'.cell? ⟨g, 6, none⟩ = some (.slice ao rts.length cap) ∧ w'.cell? ⟨w1.heap.size, 0, none⟩ = some (.int .i64 bt) ∧ w'.cell? ⟨w1.heap.size, 1, none⟩ = some (.int .i64 ln) ∧ Below w2.heap.size w2 w')
      (first | exact HS.out _ (by assumption) | exact HS.out _ (Below.refl _ _).drew | exact HS.out _ ((Below.refl _ _).alloc (Nat.le_refl _) _).drew | exact HS.out _ ((Below.refl _ _).drew.alloc (by simp) _) | exact HS.out _ (below_allocS (by assumption) _) | exact HS.out _ (below_set2 (by assumption) (Nat.le_refl _) _ _))
      (first | (go_at_call 105; refine (HLC.out _ ?_).mono ?_; (first | exact (Below.refl _ _).drew | exact ((Below.refl _ _).alloc (Nat.le_refl _) _).drew); rintro e w3 ⟨rfl, hb3, hbW⟩; (first | (have hpf := pf_first hbW; obtain ⟨z0, z1, z2, z3⟩ := hpf.get; have HPF : Hid (PfVar w3 w2.heap.size 0 0) := hpf; clear hpf) | skip)))
    · go_wp2_with fail
      go_meet
      exact ⟨w3.heap.size, rfl, rfl, heap_alloc_new w3 _, hb3.alloc hb3.size _⟩
    · go_wp2_with fail
      go_meet
      exact ⟨w2.heap.size, rfl, rfl, HPF.out.set L.bt L.ln, below_set2 hb3 (Nat.le_refl _) _ _⟩
  case rest =>
    obtain ⟨B, rfl, rfl, HLV, hbc⟩ := hcut
    clear HLC HS HD
    have hbwc : Below w.heap.size w wc := HB2.out.trans (hbc.mono HB2.out.size)
    have HNc : Hid (PfVar wc w1.heap.size bt ln) := HN2.out.below hbc
    have HGc : Hid (GRead wc g c ao cap rts) := HG.out.below hbwc
    have HRL : Hid (R = (L.fd && (decide (netO c (best rts L.bt L.ln) = netO c pe) && rts.all fun r => !((decide (ln < r.ln) && cov bt ln r.bt r.ln) && !decide (netO c (best rts r.bt r.ln) = netO c pe))))) := by
      show _ = _
      rw [HR.out, HL.out]
      rfl
    obtain ⟨l0, l1, _, _⟩ := HLV.out.get
    obtain ⟨fd, lb, ll⟩ := L
    simp only [] at HRL l0 l1
    clear HR HL HLV hbc HN2 HB2
    cases fd
    · have HF : Hid (R = false) := by show _ = _; rw [HRL.out]; rfl
      clear HRL
      go_wp2_with fail
      go_ret
      exact ⟨by rw [HF.out]; rfl, hbwc⟩
    · have HNT : Hid (Calls Tryz.prog 106 #[.pointer (some ⟨g, 0, none⟩), .agg #[.int .i64 lb, .int .i64 ll]] wc fun e w' => e = .returned (.int .i64 (netO c (best rts lb ll))) ∧ Below wc.heap.size wc w') := networkTo_any g c ao cap rts lb ll wc HGc.out
      by_cases he : netO c (best rts lb ll) = netO c pe
      · have HRA : Hid (R = rts.all fun r => !((decide (ln < r.ln) && cov bt ln r.bt r.ln) && !decide (netO c (best rts r.bt r.ln) = netO c pe))) := by
          show _ = _
          rw [HRL.out, decide_eq_true he]
          rfl
        have q1 : (netO c (best rts lb ll) != netO c pe) = false := by simpa using he
        clear HRL he
        go_wp2_with (go_at_call 106; refine HNT.out.mono ?_; rintro e w4 ⟨rfl, hb4⟩; have c6 := (HGc.out.below hb4).rv)
        have hbw4 : Below w.heap.size w w4 := hbwc.trans (hb4.mono hbwc.size)
        have HN4 : Hid (PfVar w4 w1.heap.size bt ln) := HNc.out.below hb4
        clear hb4 HNT l0 l1
        go_loopw [46] (fun x wr => ∃ i : Nat, x = .int .i64 i ∧ i ≤ rts.length ∧ Hid (R = (rts.drop i).all fun r => !((decide (ln < r.ln) && cov bt ln r.bt r.ln) && !decide (netO c (best rts r.bt r.ln) = netO c pe))) ∧ Hid (PfVar wr w1.heap.size bt ln) ∧ Below w.heap.size w wr) (fun x _ => rts.length - (intOf x).toNat)
        case atStart => exact ⟨0, rfl, Nat.zero_le _, by show _ = _; rw [HRA.out]; rfl, HN4, hbw4⟩
        case round =>
          clear c6 HRA HN4 hbw4 q1
          obtain ⟨i, rfl, hil, H, HNr, hbr⟩ := hrel
          obtain ⟨p0, p1, _, _⟩ := HNr.out.get
          have hgr := HG.out.below hbr
          have HGr : Hid (GRead wr g c ao cap rts) := hgr
          have hzr := hbr.size
          have hNz := lt_of_block HNr.out
          by_cases hlt : i < rts.length
          · obtain ⟨rk, ro, rfl, bz2, c0, c1, c2, c3⟩ := hgr.rin i hlt
            have hdr : rts.drop i = rts[i] :: rts.drop (i + 1) := List.drop_eq_getElem_cons hlt
            have HN : Hid (R = (!((decide (ln < rts[i].ln) && cov bt ln rts[i].bt rts[i].ln) && !decide (netO c (best rts rts[i].bt rts[i].ln) = netO c pe)) && (rts.drop (i + 1)).all fun r => !((decide (ln < r.ln) && cov bt ln r.bt r.ln) && !decide (netO c (best rts r.bt r.ln) = netO c pe)))) := by show _ = _; rw [H.out, hdr, List.all_cons]
            have HRO : Hid (prefOK rts[i].bt rts[i].ln = true) := (HG.out.ok rts[i] (List.getElem_mem hlt)).2.1
            clear H hdr hgr
            generalize rts[i] = r at *
            obtain ⟨rpe, rbt, rln, rpa⟩ := r
            simp only [] at c0 c1 c2 c3 HRO HN
            obtain ⟨wA, hwA⟩ : ∃ wA, wA = wr.alloc (.cells #[.int .i64 rpe, .int .i64 rbt, .int .i64 rln, .int .i64 rpa] 100) := ⟨_, rfl⟩
            have hbA : Below wr.heap.size wr wA := by rw [hwA]; exact below_alloc _ _
            have HRV : Hid (RtVar wA wr.heap.size ⟨rpe, rbt, rln, rpa⟩) := by show _ = _; rw [hwA]; exact heap_alloc_new wr _
            have HWA2 : Hid (wA = wr.alloc (.cells #[.int .i64 rpe, .int .i64 rbt, .int .i64 rln, .int .i64 rpa] 100)) := hwA
            have HGA : Hid (GRead wA g c (some ⟨rk, ro, none⟩) cap rts) := HGr.out.below hbA
            have HNA : Hid (PfVar wA w1.heap.size bt ln) := HNr.out.below hbA
            have hbwA : Below w.heap.size w wA := hbr.trans (hbA.mono hzr)
            clear hwA
            cases hin : (decide (ln < rln) && cov bt ln rbt rln)
            · have HN2 : Hid (R = (rts.drop (i + 1)).all fun r => !((decide (ln < r.ln) && cov bt ln r.bt r.ln) && !decide (netO c (best rts r.bt r.ln) = netO c pe))) := by
                show _ = _
                rw [HN.out, hin]
                rfl
              have HQ : Hid ((decide (ln < rln) && cov bt ln rbt rln) = false) := hin
              clear HN hin
              go_wp2_with (go_at_call 107; refine (isWithin_any _ _ _ _ _ HRO.out HPR.out).mono ?_; rintro e w5 ⟨rfl, hb5⟩; rw [HQ.out]; rw [← HWA2.out] at hb5)
              go_roundw
              case rel => exact ⟨i + 1, by go_num, by omega, HN2, HNA.out.below hb5, hbwA.trans (hb5.mono hbwA.size)⟩
              case measure => simp [intOf]; omega
            · have HQ : Hid ((decide (ln < rln) && cov bt ln rbt rln) = true) := hin
              by_cases he : netO c (best rts rbt rln) = netO c pe
              · have HN2 : Hid (R = (rts.drop (i + 1)).all fun r => !((decide (ln < r.ln) && cov bt ln r.bt r.ln) && !decide (netO c (best rts r.bt r.ln) = netO c pe))) := by
                  show _ = _
                  rw [HN.out, hin, decide_eq_true he]
                  rfl
                have q1 : (netO c (best rts rbt rln) != netO c pe) = false := by simpa using he
                clear HN hin he
                go_wp2_with (first
                  | (go_at_call 107; refine (isWithin_any _ _ _ _ _ HRO.out HPR.out).mono ?_; rintro e w5 ⟨rfl, hb5⟩; rw [HQ.out]; rw [← HWA2.out] at hb5; obtain ⟨x0, x1, x2, x3, _⟩ := (HRV.out.below hb5).get; simp only [] at x0 x1 x2 x3)
                  | (go_at_call 106; refine (networkTo_any g c _ cap rts rbt rln _ (HGA.out.below hb5)).mono ?_; rintro e w6 ⟨rfl, hb6⟩))
                go_roundw
                case rel => exact ⟨i + 1, by go_num, by omega, HN2, (HNA.out.below hb5).below hb6, (hbwA.trans (hb5.mono hbwA.size)).trans (hb6.mono (by have := hbwA.size; have := hb5.size; omega))⟩
                case measure => simp [intOf]; omega
              · have HF : Hid (R = false) := by
                  show _ = _
                  rw [HN.out, hin, decide_eq_false he]
                  rfl
                have q1 : (netO c (best rts rbt rln) != netO c pe) = true := by simpa using he
                clear HN hin he
                go_wp2_with (first
                  | (go_at_call 107; refine (isWithin_any _ _ _ _ _ HRO.out HPR.out).mono ?_; rintro e w5 ⟨rfl, hb5⟩; rw [HQ.out]; rw [← HWA2.out] at hb5; obtain ⟨x0, x1, x2, x3, _⟩ := (HRV.out.below hb5).get; simp only [] at x0 x1 x2 x3)
                  | (go_at_call 106; refine (networkTo_any g c _ cap rts rbt rln _ (HGA.out.below hb5)).mono ?_; rintro e w6 ⟨rfl, hb6⟩))
                go_ret
                exact ⟨by rw [HF.out]; rfl, (hbwA.trans (hb5.mono hbwA.size)).trans (hb6.mono (by have := hbwA.size; have := hb5.size; omega))⟩
          · have HF : Hid (R = true) := by
              show _ = _
              rw [H.out, List.drop_of_length_le (by omega)]
              rfl
            clear H
            go_wp2_with fail
            go_ret
            exact ⟨by rw [HF.out]; rfl, hbr⟩
      · have HF : Hid (R = false) := by show _ = _; rw [HRL.out, decide_eq_false he]; rfl
        have q1 : (netO c (best rts lb ll) != netO c pe) = true := by simpa using he
        clear HRL he
        go_wp2_with (go_at_call 106; refine HNT.out.mono ?_; rintro e w4 ⟨rfl, hb4⟩)
        go_ret
        exact ⟨by rw [HF.out]; rfl, hbwc.trans (hb4.mono hbwc.size)⟩
theorem lholds_any (g : Nat) (c : Cf) (ao : Option Addr) (cap : Nat) (rts : List Rt) (r : Rl) (w : World) (hg : GRead w g c ao cap rts) (hpe : peOK r.pe = true) (hd : (decS r.tx).isSome = true) (hs : r.tx.size ≤ 140737488351232) :
    Calls Tryz.prog 85 #[.pointer (some ⟨g, 0, none⟩), .agg #[.int .i64 r.pe, .string r.tx, .int .i64 r.ac]] w fun e w' => e = .returned (.bool (holdS c rts r)) ∧ Below w.heap.size w w' := by
  by_cases hty : (p0S r.tx).ty = 1
  · exact holds_yes g c ao cap rts r w hg hpe hd hs hty
  · exact holds_no g c rts r w hd hs hty
end Go.Proofs.YtgkiknfpcbcnnaaGreat
