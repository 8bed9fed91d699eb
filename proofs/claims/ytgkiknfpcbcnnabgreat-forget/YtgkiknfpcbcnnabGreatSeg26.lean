import Derived.Test.YtgkiknfpcbcnnabGreatSeg25
namespace Go.Proofs.YtgkiknfpcbcnnabGreat
open Go.RowKit
set_option maxRecDepth 20000

set_option maxHeartbeats 6400000 in
theorem forgetLaw_any (X : XGate) (c : Cf) (l : List StS) (ao : Option Addr) (cap : Nat) (w : World) (h : CfI c) (hl : l.length ≤ 9223372036854775807) (hs : StepsB w w.heap.size ao l) :
    Calls Tryz.prog 7 #[cfV c, .slice ao l.length cap] w fun e w' => e = .returned (.bool true) ∧ Below w.heap.size w w' := by
  have HP : Hid (∀ w, StepsB w w.heap.size ao l → Calls Tryz.prog 14 #[cfV c, .slice ao l.length cap, .bool false, .agg #[.int .i64 0, .int .i64 0, .int .i64 0, .int .i64 0, .int .i64 0, .bool false]] w fun e w' => ∃ r x rts rls, e = .returned (.pointer (some ⟨r, 0, none⟩)) ∧ RunI X (w.heap.size + 1 + 1) w' r x (fitC c) false ⟨0, 0, 0, 0, 0, false⟩ gs0 rts rls ∧ Below w.heap.size w w') := fun w hs => tabled_run X (told_off X) (ask_off X) c ⟨0, 0, 0, 0, 0, false⟩ l ao cap w h (by decide) hl hs
  have HBG : Hid (∀ w, Calls Tryz.prog 20 #[cfV c, .bool false, .agg #[.int .i64 0, .int .i64 0, .int .i64 0, .int .i64 0, .int .i64 0, .bool false]] w fun e w' => ∃ r x, e = .returned (.pointer (some ⟨r, 0, none⟩)) ∧ RunI X w.heap.size w' r x (fitC c) false ⟨0, 0, 0, 0, 0, false⟩ gs0 [r0] [q0] ∧ Below w.heap.size w w') := fun w => begin_any X (told_off X) c ⟨0, 0, 0, 0, 0, false⟩ w h (fun h => by cases h)
  have hs1 := (hs.below ((Below.refl _ w).alloc (Nat.le_refl _) (.cells #[.int .i64 c.cp, .int .i64 c.bu, .int .i64 c.n0, .int .i64 c.n1, .int .i64 c.n2, .int .i64 c.n3] 24))).mono (Nat.le_succ _)
  have HS : Hid (StepsB (w.alloc (.cells #[.int .i64 c.cp, .int .i64 c.bu, .int .i64 c.n0, .int .i64 c.n1, .int .i64 c.n2, .int .i64 c.n3] 24)) (w.heap.size + 1) ao l) := hs1
  clear h hs hl hs1
  unfold cfV
  unfold cfV at HP HBG
  go_enter Tryz.func7, Tryz.ntmps7
  go_wp2_with fail
  refine (HP.out _ (by simp only [World.size_alloc]; exact HS.out)).mono ?_
  rintro e W ⟨r, x, rts, rls, rfl, hr1, hb1⟩
  have HBW : Hid (Below w.heap.size w W) := (below_alloc w _).trans (hb1.mono (by simp))
  have hBw : w.heap.size ≤ (w.alloc (.cells #[.int .i64 c.cp, .int .i64 c.bu, .int .i64 c.n0, .int .i64 c.n1, .int .i64 c.n2, .int .i64 c.n3] 24)).heap.size + 1 + 1 := by simp only [World.size_alloc]; omega
  obtain ⟨p0, p1, p2, p3, p4, p5, pz⟩ := cells_six hb1
  generalize (w.alloc (.cells #[.int .i64 c.cp, .int .i64 c.bu, .int .i64 c.n0, .int .i64 c.n1, .int .i64 c.n2, .int .i64 c.n3] 24)).heap.size + 1 + 1 = B at hr1 hBw
  have HR : Hid (RunI X B W r x (fitC c) false ⟨0, 0, 0, 0, 0, false⟩ gs0 rts rls) := hr1
  have hok := hr1.gok
  have HOK : Hid (GsOK ⟨fitC c, rts, rls⟩) := hok
  have hl24 : rls.length ≤ 24 := hok.l24
  have hr24 : rts.length ≤ 24 := hok.r24
  clear hr1 hb1 HP HS hok
  go_wp2_with fail
  refine (HBG.out _).mono ?_
  rintro e w2 ⟨q, y, rfl, hq2, hb2⟩
  have HQ2 : Hid (RunI X W.heap.size w2 q y (fitC c) false ⟨0, 0, 0, 0, 0, false⟩ gs0 [r0] [q0]) := hq2
  have HB2 : Hid (Below W.heap.size W w2) := hb2
  clear hq2 hb2 HBG p0 p1 p2 p3 p4 p5 pz
  obtain ⟨ro, rc, lo, lc, c7, c8, hrin, hcin, hrz⟩ : ∃ ro rc lo lc, W.cell? ⟨r, 7, none⟩ = some (.slice ro rts.length rc) ∧ W.cell? ⟨r, 8, none⟩ = some (.slice lo rls.length lc) ∧ RtIn W ro rts ∧ ClIn W lo rls ∧ r < W.heap.size := by
    obtain ⟨tv, rv, lv, st, F, hj, _, _⟩ := HR.out.ex
    obtain ⟨ro, rc, lo, lc, _, _, _, k7, k8, _, _, _, k1, k2⟩ := hj.read
    exact ⟨ro, rc, lo, lc, k7, k8, k1, k2, hj.lt⟩
  have HRI : Hid (RtIn W ro rts) := hrin
  have HCI : Hid (ClIn W lo rls) := hcin
  clear hrin hcin
  go_wp2_with fail
  refine (gone_any X (told_off X) HQ2.out 0 (by decide)).mono ?_
  rintro e w3 ⟨rfl, hq3, hb3⟩
  have HQ3 : Hid (RunI X W.heap.size w3 q y (fitC c) false ⟨0, 0, 0, 0, 0, false⟩ gs0 [] []) := hq3
  have hbW3 : Below W.heap.size W w3 := HB2.out.trans hb3
  have k8 := (hbW3.cell (p := ⟨r, 8, none⟩) hrz).trans c8
  clear hq3 hb3 HQ2 HB2
  go_wp2_with fail
  go_loopw [7] (fun v wr => ∃ k : Nat, v = .int .i64 ((k : Int) - 1) ∧ k ≤ rls.length ∧ Hid (RunI X W.heap.size wr q y (fitC c) false ⟨0, 0, 0, 0, 0, false⟩ gs0 [] (rls.drop k).reverse) ∧ Below W.heap.size W wr) (fun v _ => (intOf v + 1).toNat)
  case atStart => exact ⟨rls.length, rfl, Nat.le_refl _, by show RunI _ _ _ _ _ _ _ _ _ _ _; rw [List.drop_length]; exact HQ3.out, hbW3⟩
  case round =>
    clear k8 hbW3 HQ3
    obtain ⟨k, rfl, hk, HQ, hbel⟩ := hrel
    have k8 := (hbel.cell (p := ⟨r, 8, none⟩) hrz).trans c8
    have hz := hbel.size
    cases k with
    | zero =>
      have HQz : Hid (RunI X W.heap.size wr q y (fitC c) false ⟨0, 0, 0, 0, 0, false⟩ gs0 [] rls.reverse) := HQ.out
      have k7 := (hbel.cell (p := ⟨r, 7, none⟩) hrz).trans c7
      clear HQ k8
      rw [show (((0 : Nat) : Int) - 1) = -1 from rfl]
      go_wp2_with fail
      go_loopw [8] (fun v wr => ∃ k : Nat, v = .int .i64 ((k : Int) - 1) ∧ k ≤ rts.length ∧ Hid (RunI X W.heap.size wr q y (fitC c) false ⟨0, 0, 0, 0, 0, false⟩ gs0 (rts.drop k).reverse rls.reverse) ∧ Below W.heap.size W wr) (fun v _ => (intOf v + 1).toNat)
      case atStart => exact ⟨rts.length, rfl, Nat.le_refl _, by show RunI _ _ _ _ _ _ _ _ _ _ _; rw [List.drop_length]; exact HQz.out, hbel⟩
      case round =>
        clear k7 hbel HQz hz
        obtain ⟨k, rfl, hk', HQ, hbel⟩ := hrel
        have k7 := (hbel.cell (p := ⟨r, 7, none⟩) hrz).trans c7
        have hz := hbel.size
        cases k with
        | zero =>
          have HQz : Hid (RunI X W.heap.size wr q y (fitC c) false ⟨0, 0, 0, 0, 0, false⟩ gs0 rts.reverse rls.reverse) := HQ.out
          have x0 : wr.cell? ⟨r, 0, none⟩ = some (.pointer (some ⟨x, 0, none⟩)) := by
            obtain ⟨tv, rv, lv, st, F, hj, _, _⟩ := (HR.out.below hbel).ex
            exact cell_of_row _ r 0 _ _ _ hj.cell
          have hsim : Sim ⟨fitC c, rts.reverse, rls.reverse⟩ ⟨fitC c, rts, rls⟩ := ⟨rfl, List.reverse_perm _, List.reverse_perm _⟩
          have hst : stats ⟨fitC c, rts.reverse, rls.reverse⟩ = stats ⟨fitC c, rts, rls⟩ := hsim.stats (HQz.out.tel)
          have htb : tabS ⟨fitC c, rts.reverse, rls.reverse⟩ = tabS ⟨fitC c, rts, rls⟩ := hsim.tabS (HQz.out.tel)
          have h128 : (tabS ⟨fitC c, rts, rls⟩).length ≤ 128 := tabS_len HOK.out
          have hSl : (stats ⟨fitC c, rts, rls⟩).length = rls.length := stats_len _
          have hq4 := ask_four HR.out hbel HQz.out
          rw [hst, htb, List.length_reverse] at hq4
          generalize tabS ⟨fitC c, rts, rls⟩ = T at *
          generalize stats ⟨fitC c, rts, rls⟩ = L at *
          have HSL : Hid (L.length = rls.length) := hSl
          have H4 : Hid (Calls Tryz.prog 10 #[.pointer (some ⟨x, 0, none⟩)] wr fun e w6 => ∃ ao ac, e = .returned (.slice ao rls.length ac) ∧ w6.cell? ⟨q, 0, none⟩ = some (.pointer (some ⟨y, 0, none⟩)) ∧
            Calls Tryz.prog 10 #[.pointer (some ⟨y, 0, none⟩)] w6 fun e w7 => ∃ bo bc, e = .returned (.slice bo rls.length bc) ∧ w7.cell? ⟨r, 0, none⟩ = some (.pointer (some ⟨x, 0, none⟩)) ∧
              Calls Tryz.prog 15 #[.pointer (some ⟨x, 0, none⟩)] w7 fun e w8 => ∃ co cc, e = .returned (.slice co T.length cc) ∧ w8.cell? ⟨q, 0, none⟩ = some (.pointer (some ⟨y, 0, none⟩)) ∧
                Calls Tryz.prog 15 #[.pointer (some ⟨y, 0, none⟩)] w8 fun e w9 => ∃ d0 dc, e = .returned (.slice d0 T.length dc) ∧
                  TRow w9 0 (.slice ao rls.length ac) L ∧ TRow w9 0 (.slice bo rls.length bc) L ∧ ERow w9 0 (.slice co T.length cc) T ∧ ERow w9 0 (.slice d0 T.length dc) T ∧
                  w9.cell? ⟨q, 9, none⟩ = some (.bool true) ∧ (∃ lo lc, w9.cell? ⟨r, 8, none⟩ = some (.slice lo rls.length lc)) ∧ Below B wr w9) := hq4
          have HBr : Hid (Below w.heap.size w wr) := HBW.out.trans (hbel.mono HBW.out.size)
          clear hq4 hsim hst htb hSl HQ HQz k7 HR HOK HRI HCI c7 c8 hbel hz HBW
          rw [show (((0 : Nat) : Int) - 1) = -1 from rfl]
          generalize rls.length = n at *
          go_wp2_with fail
          refine H4.out.mono ?_
          rintro e w6 ⟨a1, a2, rfl, y6, hc6⟩
          clear H4
          go_wp2_with fail
          refine hc6.mono ?_
          rintro e w7 ⟨b1, b2, rfl, y7, hc7⟩
          go_wp2_with fail
          refine hc7.mono ?_
          rintro e w8 ⟨c1, c2, rfl, y8, hc8⟩
          go_wp2_with fail
          refine hc8.mono ?_
          rintro e w9 ⟨d1, d2, rfl, t1, t2, t3, t4, y9, ⟨lo9, lc9, z8⟩, hb9⟩
          have T1 : Hid (TRow w9 0 (.slice a1 n a2) L) := t1
          have T2 : Hid (TRow w9 0 (.slice b1 n b2) L) := t2
          have T3 : Hid (EnIn w9 c1 T) := EnIn.of t3
          have T4 : Hid (EnIn w9 d1 T) := EnIn.of t4
          have HB9 : Hid (Below w.heap.size w w9) := HBr.out.trans (hb9.mono hBw)
          clear t1 t2 t3 t4 hb9 HBr
          have g1 : ((n : Int) != (n : Int)) = false := by simp
          have g2 : ((T.length : Int) != (T.length : Int)) = false := by simp
          go_wp2_with fail
          go_loopw [13] (fun v wr => ∃ i nd : Nat, v = .int .i64 i ∧ i ≤ n ∧ wr = w9.drewN nd) (fun v _ => n - (intOf v).toNat)
          case atStart => exact ⟨0, 0, rfl, Nat.zero_le _, rfl⟩
          case round =>
            obtain ⟨i, nd, rfl, hin, rfl⟩ := hrel
            by_cases hlt : i < n
            · have hiL : i < L.length := by rw [HSL.out]; exact hlt
              obtain ⟨g, rfl, _, hc⟩ := T1.out.get (by omega)
              obtain ⟨g', rfl, _, hc'⟩ := T2.out.get (by omega)
              obtain ⟨u0, u1, u2, u3⟩ := hc i hiL
              obtain ⟨v0, v1, v2, v3⟩ := hc' i hiL
              clear hc hc'
              generalize L[i] = z at *
              go_wp2_with fail
              go_quiet (fail)
              go_wp2_with fail
              go_roundw
              case rel => exact ⟨i + 1, _, by go_num, by omega, rfl⟩
              case measure => simp [intOf]; omega
            · go_wp2_with fail
              go_loopw [14] (fun v wr => ∃ i nd : Nat, v = .int .i64 i ∧ i ≤ T.length ∧ wr = w9.drewN nd) (fun v _ => T.length - (intOf v).toNat)
              case atStart => exact ⟨0, nd, rfl, Nat.zero_le _, rfl⟩
              case round =>
                obtain ⟨j, nd', rfl, hjT, rfl⟩ := hrel
                by_cases hlt' : j < T.length
                · obtain ⟨g, rfl, _, u0, u1, u2⟩ := T3.out j hlt'
                  obtain ⟨g', rfl, _, v0, v1, v2⟩ := T4.out j hlt'
                  generalize T[j] = z at *
                  go_wp2_with fail
                  go_quiet (fail)
                  go_wp2_with fail
                  go_roundw
                  case rel => exact ⟨j + 1, _, by go_num, by omega, rfl⟩
                  case measure => simp [intOf]; omega
                · go_wp2_with fail
                  go_ret
                  exact ⟨rfl, below_drewN HB9.out _⟩
        | succ i =>
          have hi' : i < rts.length := by omega
          obtain ⟨rk, ro', rfl, hkz, d0, d1, d2, d3⟩ := HRI.out i hi'
          obtain ⟨o1, o2, o3⟩ := HOK.out.rt rts[i] (List.getElem_mem hi')
          have hback := roS_back HOK.out.rtOnce hr24 hi'
          have en : ((i + 1 : Nat) : Int) - 1 = (i : Int) := by omega
          rw [en]
          clear en
          have hro := fun {W' : World} (hW' : Below wr.heap.size wr W') => route_any X (told_off X) (HQ.out.below hW') rts[i].pe rts[i].bt rts[i].ln rts[i].pa o1 o2 o3
          rw [hback] at hro
          generalize rts[i] = z at *
          obtain ⟨pe, bt, ln, pa⟩ := z
          simp only [] at d0 d1 d2 d3 hro
          have HSS : Hid (∀ W' : World, Below W.heap.size W W' → W'.cell? ⟨r, 7, none⟩ = some (.slice (some ⟨rk, ro', none⟩) rts.length rc) ∧ W'.cell? ⟨rk, ro' + i * 4, none⟩ = some (.int .i64 pe) ∧ W'.cell? ⟨rk, ro' + i * 4 + 1, none⟩ = some (.int .i64 bt) ∧ W'.cell? ⟨rk, ro' + i * 4 + 2, none⟩ = some (.int .i64 ln) ∧ W'.cell? ⟨rk, ro' + i * 4 + 3, none⟩ = some (.int .i64 pa)) := fun W' hW' => ⟨(hW'.cell (p := ⟨r, 7, none⟩) hrz).trans c7, (hW'.cell (p := ⟨rk, ro' + i * 4, none⟩) hkz).trans d0, (hW'.cell (p := ⟨rk, ro' + i * 4 + 1, none⟩) hkz).trans d1, (hW'.cell (p := ⟨rk, ro' + i * 4 + 2, none⟩) hkz).trans d2, (hW'.cell (p := ⟨rk, ro' + i * 4 + 3, none⟩) hkz).trans d3⟩
          have HRO : Hid (∀ W', Below wr.heap.size wr W' → Calls Tryz.prog 23 #[.pointer (some ⟨q, 0, none⟩), .int .i64 pe, .agg #[.int .i64 bt, .int .i64 ln], .int .i64 pa] W' fun e w' => e = .returned (.tuple #[]) ∧ RunI X W.heap.size w' q y (fitC c) false ⟨0, 0, 0, 0, 0, false⟩ gs0 (rts.drop i).reverse rls.reverse ∧ Below W.heap.size W w') := fun W' hW' => (hro hW').mono fun _ _ h' => ⟨h'.1, h'.2.1, (hbel.trans (hW'.mono hz)).trans h'.2.2⟩
          obtain ⟨e1, e2, e3, e4, e5⟩ := HSS.out wr hbel
          have ii : (i : Int) < (rts.length : Int) := by omega
          clear hro hback d0 d1 d2 d3 o1 o2 o3 k7
          go_upto_region 13 with fail
          go_region_held3 (fun W' => W'.cell? ⟨r, 7, none⟩ = some (.slice (some ⟨rk, ro', none⟩) rts.length rc) ∧ W'.cell? ⟨rk, ro' + i * 4, none⟩ = some (.int .i64 pe) ∧ W'.cell? ⟨rk, ro' + i * 4 + 1, none⟩ = some (.int .i64 bt) ∧ W'.cell? ⟨rk, ro' + i * 4 + 2, none⟩ = some (.int .i64 ln) ∧ W'.cell? ⟨rk, ro' + i * 4 + 3, none⟩ = some (.int .i64 pa))
            (first | assumption | exact HSS.out _ hbel.drew)
            (first | (go_at_call 23; refine (HRO.out _ ?_).mono ?_; (exact (Below.refl _ _).drew); rintro e w4 ⟨rfl, r4, b4⟩; have hS4 := HSS.out w4 b4))
          have R4 : Hid (RunI X W.heap.size w4 q y (fitC c) false ⟨0, 0, 0, 0, 0, false⟩ gs0 (rts.drop i).reverse rls.reverse) := r4
          clear r4 hS4 HRO HSS e1 e2 e3 e4 e5
          go_wp2_with fail
          go_roundw
          case rel => exact ⟨i, by go_num, by omega, R4, b4⟩
          case measure => simp [intOf]
    | succ i =>
      have hi' : i < rls.length := by omega
      obtain ⟨rk, ro', rfl, hkz, d0, d1, d2⟩ := HCI.out i hi'
      obtain ⟨o1, o2, o3⟩ := HOK.out.rl rls[i] (List.getElem_mem hi')
      have hback := saS_back HOK.out.rlOnce hl24 hi'
      have en : ((i + 1 : Nat) : Int) - 1 = (i : Int) := by omega
      rw [en]
      clear en
      have hro := fun {W' : World} (hW' : Below wr.heap.size wr W') => say_any X (told_off X) (HQ.out.below hW') rls[i].pe rls[i].tx rls[i].ac o1 o2 o3 (text_size o2)
      rw [hback] at hro
      generalize rls[i] = z at *
      obtain ⟨tx, pe, ac⟩ := z
      simp only [] at d0 d1 d2 hro
      have HSS : Hid (∀ W' : World, Below W.heap.size W W' → W'.cell? ⟨r, 8, none⟩ = some (.slice (some ⟨rk, ro', none⟩) rls.length lc) ∧ W'.cell? ⟨rk, ro' + i * 3, none⟩ = some (.int .i64 pe) ∧ W'.cell? ⟨rk, ro' + i * 3 + 1, none⟩ = some (.string tx) ∧ W'.cell? ⟨rk, ro' + i * 3 + 2, none⟩ = some (.int .i64 ac)) := fun W' hW' => ⟨(hW'.cell (p := ⟨r, 8, none⟩) hrz).trans c8, (hW'.cell (p := ⟨rk, ro' + i * 3, none⟩) hkz).trans d0, (hW'.cell (p := ⟨rk, ro' + i * 3 + 1, none⟩) hkz).trans d1, (hW'.cell (p := ⟨rk, ro' + i * 3 + 2, none⟩) hkz).trans d2⟩
      have HRO : Hid (∀ W', Below wr.heap.size wr W' → Calls Tryz.prog 22 #[.pointer (some ⟨q, 0, none⟩), .int .i64 pe, .string tx, .int .i64 ac] W' fun e w' => e = .returned (.tuple #[]) ∧ RunI X W.heap.size w' q y (fitC c) false ⟨0, 0, 0, 0, 0, false⟩ gs0 [] (rls.drop i).reverse ∧ Below W.heap.size W w') := fun W' hW' => (hro hW').mono fun _ _ h' => ⟨h'.1, h'.2.1, (hbel.trans (hW'.mono hz)).trans h'.2.2⟩
      obtain ⟨e1, e2, e3, e4⟩ := HSS.out wr hbel
      have ii : (i : Int) < (rls.length : Int) := by omega
      clear hro hback d0 d1 d2 o1 o2 o3 k8
      go_upto_region 9 with fail
      go_region_held3 (fun W' => W'.cell? ⟨r, 8, none⟩ = some (.slice (some ⟨rk, ro', none⟩) rls.length lc) ∧ W'.cell? ⟨rk, ro' + i * 3, none⟩ = some (.int .i64 pe) ∧ W'.cell? ⟨rk, ro' + i * 3 + 1, none⟩ = some (.string tx) ∧ W'.cell? ⟨rk, ro' + i * 3 + 2, none⟩ = some (.int .i64 ac))
        (first | assumption | exact HSS.out _ hbel.drew)
        (first | (go_at_call 22; refine (HRO.out _ ?_).mono ?_; (exact (Below.refl _ _).drew); rintro e w4 ⟨rfl, r4, b4⟩; have hS4 := HSS.out w4 b4))
      have R4 : Hid (RunI X W.heap.size w4 q y (fitC c) false ⟨0, 0, 0, 0, 0, false⟩ gs0 [] (rls.drop i).reverse) := r4
      clear r4 hS4 HRO HSS e1 e2 e3 e4
      go_wp2_with fail
      go_roundw
      case rel => exact ⟨i, by go_num, by omega, R4, b4⟩
      case measure => simp [intOf]
end Go.Proofs.YtgkiknfpcbcnnabGreat
