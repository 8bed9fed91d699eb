import Derived.Test.YtgkiknfpcbcnnaaGreatLbf
namespace Go.Proofs.YtgkiknfpcbcnnaaGreat
open Go.RowKit
set_option maxRecDepth 20000
theorem plR_at {l : List Rt} {pe bt ln : Int} (h : plR l pe bt ln < l.length) : (l[plR l pe bt ln]'h).pe = pe ∧ (l[plR l pe bt ln]'h).bt = bt ∧ (l[plR l pe bt ln]'h).ln = ln := by
  have := List.findIdx_getElem (p := fun r => !rtNe pe bt ln r) (xs := l) (w := h)
  have e : ¬ rtNe pe bt ln (l[plR l pe bt ln]'h) = true := by
    intro hh
    have t2 : (!rtNe pe bt ln (l[plR l pe bt ln]'h)) = true := this
    rw [hh] at t2
    simp at t2
  rw [rtNe_iff, Classical.not_not] at e
  exact e
theorem adE_bad {st : Gs} {pe : Int} {tx : ByteArray} {ac : Int} (h1 : peOK pe = true) (h2 : (decS tx).isSome = true) (h3 : upTo ac 255 = false) : adE st pe tx ac = 9 := by
  unfold adE
  have : paOK ac = false := h3
  rw [h1, h2, this]; rfl
theorem anE_bad {st : Gs} {pe bt ln pa : Int} (h1 : peOK pe = true) (h2 : prefOK bt ln = true) (h3 : upTo pa 255 = false) : anE st pe bt ln pa = 8 := by
  unfold anE
  have : paOK pa = false := h3
  rw [h1, h2, this]; rfl
set_option maxHeartbeats 1600000 in
theorem landAdd_any (g : Nat) (st : Gs) (F : Nat → Prop) (pe : Int) (tx : ByteArray) (ac : Int) (w : World) (h : LGate w g st F) (hs : tx.size ≤ 140737488351232) :
    Calls Tryz.prog 27 #[.pointer (some ⟨g, 0, none⟩), .int .i64 pe, .string tx, .int .i64 ac] w fun e w' => XPostW LGate F w g st (adE st pe tx ac) (adS st pe tx ac) e w' := by
  have HH : Hid (LGate w g st F) := h
  obtain ⟨ao, cap, lo, lc, hread, c7, hcl, f6, f7⟩ := h.read
  have HC : Hid (ClIn w lo st.rls) := hcl
  have hgz := hread.lt
  have h24 := h.ok.l24
  have HSZ : Hid (tx.size ≤ 140737488351232) := hs
  clear h hread hcl f6
  have HCK : Hid (∀ w, Calls Tryz.prog 50 #[.int .i64 pe, .string tx] w fun e w' => e = .returned (.int .i64 (ckC pe tx)) ∧ Below w.heap.size w w') := fun w => checkClaim_any pe tx w hs
  clear hs
  cases hck : (peOK pe && (decS tx).isSome)
  · have hx : adE st pe tx ac = ckC pe tx ∧ ckC pe tx ≠ 0 := by
      unfold adE ckC
      cases hp : peOK pe
      · simp
      · cases hq : (decS tx).isSome
        · simp
        · rw [hp, hq] at hck; simp at hck
    have HX : Hid (adE st pe tx ac = ckC pe tx) := hx.1
    have HS : Hid (adS st pe tx ac = st) := adS_nz (by rw [hx.1]; exact hx.2)
    have q1 : (ckC pe tx != 0) = true := by simpa using hx.2
    clear hx hck
    go_enter Tryz.func27, Tryz.ntmps27
    go_wp2_with (go_at_call 50; refine (HCK.out _).mono ?_; rintro e w1 ⟨rfl, hb1⟩)
    go_ret2
    exact LPost.no HH.out hb1 HX HS
  · rw [Bool.and_eq_true] at hck
    have hc0 : ckC pe tx = 0 := by unfold ckC; rw [hck.1, hck.2]; rfl
    rw [hc0] at HCK
    clear hc0
    cases hac : upTo ac 255
    · have hx := adE_bad (st := st) hck.1 hck.2 hac
      have HX : Hid (adE st pe tx ac = 9) := hx
      have HS : Hid (adS st pe tx ac = st) := adS_nz (by rw [hx]; decide)
      have HQ : Hid (upTo ac 255 = false) := hac
      clear hx hck hac
      go_enter Tryz.func27, Tryz.ntmps27
      go_wp2_with (first
        | (go_at_call 50; refine (HCK.out _).mono ?_; rintro e w1 ⟨rfl, hb1⟩)
        | (go_at_call 41; refine (isUpTo_any _ _ _).mono ?_; rintro e w' ⟨rfl, rfl⟩; rw [HQ.out]))
      go_ret2
      exact LPost.no HH.out hb1 HX HS
    · have HQ : Hid (upTo ac 255 = true) := hac
      have HPL : Hid (∀ w', Below w.heap.size w w' → Calls Tryz.prog 51 #[.slice lo st.rls.length lc, .int .i64 pe, .string tx] w' fun e w'' => e = .returned (.int .i64 (plC st.rls pe tx : Nat)) ∧ Below w.heap.size w w'' ∧ Below w'.heap.size w' w'') := fun w' hb' => (placeOfClaim_any st.rls lo lc pe tx w' (HC.out.below hb') h24).mono fun e w'' h'' => ⟨h''.1, hb'.trans (h''.2.mono hb'.size), h''.2⟩
      by_cases hpl : plC st.rls pe tx < st.rls.length
      · have hx := adE_at HH.out.ok hck.1 hck.2 hac hpl
        have hat := plC_at hpl
        have HX : Hid (adE st pe tx ac = 0) := hx.1
        have HS : Hid (Sim ⟨st.c, st.rts, st.rls.set (plC st.rls pe tx) ⟨(st.rls[plC st.rls pe tx]'hpl).tx, (st.rls[plC st.rls pe tx]'hpl).pe, ac⟩⟩ (adS st pe tx ac)) := by
          rw [hat.1, hat.2]; exact hx.2
        have HOK : Hid (GsOK (adS st pe tx ac)) := HH.out.ok.ad pe tx ac
        obtain ⟨rk, lc', d7, hrz, hfz, hcz, hset⟩ := HH.out.rowC (by omega)
        have e := c7.symm.trans d7
        simp only [Option.some.injEq, Value.slice.injEq, true_and] at e
        obtain ⟨rfl, rfl⟩ := e
        obtain ⟨u, hu⟩ := hcz _ hpl
        have hfk := hfz (plC st.rls pe tx * 3 + 2)
        have HST : Hid (∀ w3, Below w.heap.size w w3 → LGate (w3.setCell ⟨rk, plC st.rls pe tx * 3 + 2, none⟩ (.int .i64 ac)) g ⟨st.c, st.rts, st.rls.set (plC st.rls pe tx) ⟨(st.rls[plC st.rls pe tx]'hpl).tx, (st.rls[plC st.rls pe tx]'hpl).pe, ac⟩⟩ F ∧ Off F w (w3.setCell ⟨rk, plC st.rls pe tx * 3 + 2, none⟩ (.int .i64 ac))) := fun w3 hb3 => hset _ hpl ac hb3 (GsOK.sim HS.out HOK.out)
        clear hx hck hac hat d7 hfz hcz hset HOK
        generalize hS' : st.rls.set (plC st.rls pe tx) ⟨(st.rls[plC st.rls pe tx]'hpl).tx, (st.rls[plC st.rls pe tx]'hpl).pe, ac⟩ = S' at HS HST
        clear hS'
        generalize plC st.rls pe tx = k at *
        go_enter Tryz.func27, Tryz.ntmps27
        go_wp2_with (first
          | (go_at_call 50; refine (HCK.out _).mono ?_; rintro e w1 ⟨rfl, hb1⟩; have k7 := (hb1.cell (p := ⟨g, 7, none⟩) hgz).trans c7)
          | (go_at_call 41; refine (isUpTo_any _ _ _).mono ?_; rintro e w' ⟨rfl, rfl⟩; rw [HQ.out])
          | (go_at_call 38; refine (tabled_any HH.out hb1).mono ?_; rintro e w2 ⟨⟨oo, oc, rfl, hO⟩, _, hb2⟩; have k72 := (hb2.cell (p := ⟨g, 7, none⟩) hgz).trans c7)
          | (go_at_call 51; refine (HPL.out _ hb2).mono ?_; rintro e w3 ⟨rfl, hb3, hb23⟩; have k73 := (hb3.cell (p := ⟨g, 7, none⟩) hgz).trans c7; have ku := (hb3.cell (p := ⟨rk, k * 3 + 2, none⟩) hrz).trans hu; have kf := (hb3.frozen (p := ⟨rk, k * 3 + 2, none⟩) hrz).trans hfk)
          | (go_at_call 44; obtain ⟨r1, r3⟩ := HST.out w3 hb3; refine (since_any HH.out.ok r1 (hO.over hb23 (Nat.lt_of_lt_of_le hrz hb1.size))).mono ?_; rintro e w6 ⟨⟨xa, xc, rfl, hW⟩, hb6⟩))
        go_ret2
        exact LPost.yes HH.out.ok r1 (fun b hf => .inl hf) r3 hW hb6 HX HS.out
      · obtain ⟨hxe, hxs⟩ := adE_new (st := st) hck.1 hck.2 hac hpl
        by_cases hfull : 24 ≤ st.rls.length
        · have HX : Hid (adE st pe tx ac = 10) := by show _ = _; rw [hxe, if_pos hfull]
          have HS : Hid (adS st pe tx ac = st) := adS_nz (by rw [HX.out]; decide)
          have g5 : st.rls.length ≤ plC st.rls pe tx := by omega
          clear hxe hxs hck hac hpl
          generalize plC st.rls pe tx = k at *
          go_enter Tryz.func27, Tryz.ntmps27
          go_wp2_with (first
            | (go_at_call 50; refine (HCK.out _).mono ?_; rintro e w1 ⟨rfl, hb1⟩; have k7 := (hb1.cell (p := ⟨g, 7, none⟩) hgz).trans c7)
            | (go_at_call 41; refine (isUpTo_any _ _ _).mono ?_; rintro e w' ⟨rfl, rfl⟩; rw [HQ.out])
            | (go_at_call 38; refine (tabled_any HH.out hb1).mono ?_; rintro e w2 ⟨⟨oo, oc, rfl, hO⟩, _, hb2⟩; have k72 := (hb2.cell (p := ⟨g, 7, none⟩) hgz).trans c7)
            | (go_at_call 51; refine (HPL.out _ hb2).mono ?_; rintro e w3 ⟨rfl, hb3, hb23⟩; have k73 := (hb3.cell (p := ⟨g, 7, none⟩) hgz).trans c7))
          go_ret2
          exact LPost.no HH.out hb3 HX HS
        · have HX : Hid (adE st pe tx ac = 0) := by show _ = _; rw [hxe, if_neg hfull]
          have HS : Hid (Sim ⟨st.c, st.rts, insR ⟨tx, pe, ac⟩ st.rls⟩ (adS st pe tx ac)) := hxs (by omega)
          have HOK : Hid (GsOK ⟨st.c, st.rts, insR ⟨tx, pe, ac⟩ st.rls⟩) := GsOK.sim HS.out (HH.out.ok.ad pe tx ac)
          have HSR : Hid (Srt (insR ⟨tx, pe, ac⟩ st.rls)) := HH.out.srt.ins (Tel.ins HH.out.ok hck.2 hpl)
          have HS2 : Hid (∀ r ∈ insR ⟨tx, pe, ac⟩ st.rls, r.tx.size ≤ 140737488351232) := fun r hr => by
            rcases List.mem_cons.1 ((insR_perm _ _).mem_iff.1 hr) with rfl | hr
            · exact HSZ.out
            · exact HH.out.sz r hr
          have HCW : Hid (∀ w', Below w.heap.size w w' → Calls Tryz.prog 52 #[.slice lo st.rls.length lc, .agg #[.int .i64 pe, .string tx, .int .i64 ac]] w' fun e w'' => (∃ v, e = .returned v ∧ LCl w'' w'.heap.size v (insR ⟨tx, pe, ac⟩ st.rls)) ∧ Below w'.heap.size w' w'') := fun w' hb' => claimsWith_any st.rls lo lc ⟨tx, pe, ac⟩ w' (HC.out.below hb') h24 (fun r hr => ⟨(HH.out.ok.rl r hr).2.1, HH.out.sz r hr⟩) hck.2 HSZ.out
          have g5 : st.rls.length ≤ plC st.rls pe tx := by omega
          have g6 : st.rls.length < 24 := by omega
          clear hxe hxs hck hac hpl hfull
          generalize plC st.rls pe tx = k at *
          go_enter Tryz.func27, Tryz.ntmps27
          go_wp2_with (first
            | (go_at_call 50; refine (HCK.out _).mono ?_; rintro e w1 ⟨rfl, hb1⟩; have k7 := (hb1.cell (p := ⟨g, 7, none⟩) hgz).trans c7)
            | (go_at_call 41; refine (isUpTo_any _ _ _).mono ?_; rintro e w' ⟨rfl, rfl⟩; rw [HQ.out])
            | (go_at_call 38; refine (tabled_any HH.out hb1).mono ?_; rintro e w2 ⟨⟨oo, oc, rfl, hO⟩, _, hb2⟩; have k72 := (hb2.cell (p := ⟨g, 7, none⟩) hgz).trans c7)
            | (go_at_call 51; refine (HPL.out _ hb2).mono ?_; rintro e w3 ⟨rfl, hb3, hb23⟩; have k73 := (hb3.cell (p := ⟨g, 7, none⟩) hgz).trans c7)
            | (go_at_call 52; refine (HCW.out _ hb3).mono ?_; rintro e w4 ⟨⟨v, rfl, hrow⟩, hb4⟩; obtain ⟨vo, vc, rfl⟩ := ownsRow_shape hrow; have hbw4 : Below w.heap.size w w4 := hb3.trans (hb4.mono hb3.size); have y7 := (hbw4.cell (p := ⟨g, 7, none⟩) hgz).trans c7; have yf := (hbw4.frozen (p := ⟨g, 7, none⟩) hgz).trans f7)
            | (go_at_call 44; obtain ⟨F', r1, r2, r3⟩ := HH.out.setC hbw4 (ownsRow_base hrow hb3.size) HOK.out HSR.out HS2.out; refine (since_any HH.out.ok r1 (hO.over (hb23.trans (hb4.mono hb23.size)) (Nat.lt_of_lt_of_le hgz hb1.size))).mono ?_; rintro e w6 ⟨⟨xa, xc, rfl, hW⟩, hb6⟩))
          go_ret2
          exact LPost.yes HH.out.ok r1 r2 r3 hW hb6 HX HS.out
end Go.Proofs.YtgkiknfpcbcnnaaGreat
namespace Go.Proofs.YtgkiknfpcbcnnaaGreat
open Go.RowKit
set_option maxRecDepth 20000
set_option maxHeartbeats 1600000 in
theorem landAnnounce_any (g : Nat) (st : Gs) (F : Nat → Prop) (pe bt ln pa : Int) (w : World) (h : LGate w g st F) :
    Calls Tryz.prog 22 #[.pointer (some ⟨g, 0, none⟩), .int .i64 pe, .agg #[.int .i64 bt, .int .i64 ln], .int .i64 pa] w fun e w' => XPostW LGate F w g st (anE st pe bt ln pa) (anS st pe bt ln pa) e w' := by
  obtain ⟨i0, hi, hz0, hz1, hz2⟩ := info_parts infoLRt
  have HH : Hid (LGate w g st F) := h
  obtain ⟨ao, cap, lo, lc, hread, c7, hcl, f6, f7⟩ := h.read
  have HG : Hid (GRead w g st.c ao cap st.rts) := hread
  have hgz := hread.lt
  have h24 := hread.r24
  clear h hread hcl c7 f7
  obtain ⟨wA, hwA⟩ : ∃ wA, wA = w.alloc (.cells #[.int .i64 bt, .int .i64 ln] 39) := ⟨_, rfl⟩
  have HWA : Hid (wA = w.alloc (.cells #[.int .i64 bt, .int .i64 ln] 39)) := hwA
  have hbA : Below w.heap.size w wA := by rw [hwA]; exact below_alloc _ _
  have HPA : Hid (PfVar wA w.heap.size bt ln) := by show _ = _; rw [hwA]; exact heap_alloc_new w _
  clear hwA
  have hzA := hbA.size
  cases hck : (peOK pe && prefOK bt ln)
  · have hx : anE st pe bt ln pa = ckR pe bt ln ∧ ckR pe bt ln ≠ 0 := by
      unfold anE ckR
      cases hp : peOK pe
      · simp
      · cases hq : prefOK bt ln
        · simp
        · rw [hp, hq] at hck; simp at hck
    have HX : Hid (anE st pe bt ln pa = ckR pe bt ln) := hx.1
    have HS : Hid (anS st pe bt ln pa = st) := anS_nz (by rw [hx.1]; exact hx.2)
    have q1 : (ckR pe bt ln != 0) = true := by simpa using hx.2
    clear hx hck
    go_enter Tryz.func22, Tryz.ntmps22
    go_wp2_with (go_at_call 42; rw [← HWA.out]; refine (checkRoute_any _ _ _ _).mono ?_; rintro e w1 ⟨rfl, hb1⟩)
    go_ret2
    exact LPost.no HH.out (hbA.trans (hb1.mono hzA)) HX HS
  · rw [Bool.and_eq_true] at hck
    have hc0 : ckR pe bt ln = 0 := by unfold ckR; rw [hck.1, hck.2]; rfl
    have HC : Hid (∀ w, Calls Tryz.prog 42 #[.int .i64 pe, .agg #[.int .i64 bt, .int .i64 ln]] w fun e w' => e = .returned (.int .i64 0) ∧ Below w.heap.size w w') := fun w => by rw [← hc0]; exact checkRoute_any pe bt ln w
    clear hc0
    cases hac : upTo pa 255
    · have hx := anE_bad (st := st) hck.1 hck.2 hac
      have HX : Hid (anE st pe bt ln pa = 8) := hx
      have HS : Hid (anS st pe bt ln pa = st) := anS_nz (by rw [hx]; decide)
      have HQ : Hid (upTo pa 255 = false) := hac
      clear hx hck hac
      go_enter Tryz.func22, Tryz.ntmps22
      go_wp2_with (first
        | (go_at_call 42; rw [← HWA.out]; refine (HC.out _).mono ?_; rintro e w1 ⟨rfl, hb1⟩)
        | (go_at_call 41; refine (isUpTo_any _ _ _).mono ?_; rintro e w' ⟨rfl, rfl⟩; rw [HQ.out]))
      go_ret2
      exact LPost.no HH.out (hbA.trans (hb1.mono hzA)) HX HS
    · have HQ : Hid (upTo pa 255 = true) := hac
      have HCK : Hid (peOK pe = true ∧ prefOK bt ln = true ∧ paOK pa = true) := ⟨hck.1, hck.2, hac⟩
      have HPL : Hid (∀ w', Below w.heap.size w w' → Calls Tryz.prog 43 #[.slice ao st.rts.length cap, .int .i64 pe, .agg #[.int .i64 bt, .int .i64 ln]] w' fun e w'' => e = .returned (.int .i64 (plR st.rts pe bt ln : Nat)) ∧ Below w.heap.size w w'' ∧ Below w'.heap.size w' w'') := fun w' hb' => (placeOfRoute_any st.rts ao cap pe bt ln w' (HG.out.rin.below hb') h24).mono fun e w'' h'' => ⟨h''.1, hb'.trans (h''.2.mono hb'.size), h''.2⟩
      clear hck hac
      go_enter Tryz.func22, Tryz.ntmps22
      go_upto_region 7 with (first
        | (go_at_call 42; rw [← HWA.out]; refine (HC.out _).mono ?_; rintro e w0 ⟨rfl, hb0⟩; have hbw0 : Below w.heap.size w w0 := hbA.trans (hb0.mono hzA))
        | (go_at_call 41; refine (isUpTo_any _ _ _).mono ?_; rintro e w' ⟨rfl, rfl⟩; rw [HQ.out])
        | (go_at_call 38; refine (tabled_any HH.out hbw0).mono ?_; rintro e w1 ⟨⟨oo, oc, rfl, hO⟩, hb1, hbw1⟩))
      have hzO : w.heap.size ≤ w0.heap.size := hbw0.size
      have HO : Hid (ERow w1 w0.heap.size (.slice oo (tabS st).length oc) (tabS st)) := hO
      have HP1 : Hid (PfVar w1 w.heap.size bt ln) := (HPA.out.below hb0).below hb1
      clear hO hb0 hbw0
      obtain ⟨p0, p1, _, _⟩ := HP1.out.get
      have c6 := (HG.out.below hbw1).rv
      have HSS : Hid (∀ w', Below w1.heap.size w1 w' → w'.cell? ⟨g, 6, none⟩ = some (.slice ao st.rts.length cap) ∧ w'.cell? ⟨w.heap.size, 0, none⟩ = some (.int .i64 bt) ∧ w'.cell? ⟨w.heap.size, 1, none⟩ = some (.int .i64 ln) ∧ Below w1.heap.size w1 w') := fun w' hx =>
        ⟨(hx.cell (p := ⟨g, 6, none⟩) (by show g < w1.heap.size; have := hbw1.size; omega)).trans c6, (hx.cell (p := ⟨w.heap.size, 0, none⟩) (lt_of_block HP1.out)).trans p0, (hx.cell (p := ⟨w.heap.size, 1, none⟩) (lt_of_block HP1.out)).trans p1, hx⟩
      have HPL1 : Hid (∀ w', Below w1.heap.size w1 w' → Calls Tryz.prog 43 #[.slice ao st.rts.length cap, .int .i64 pe, .agg #[.int .i64 bt, .int .i64 ln]] w' fun e w'' => e = .returned (.int .i64 (plR st.rts pe bt ln : Nat)) ∧ Below w1.heap.size w1 w'') := fun w' hb' => (HPL.out w' (hbw1.trans (hb'.mono hbw1.size))).mono fun e w'' h'' => ⟨h''.1, hb'.trans (h''.2.2.mono hb'.size)⟩
      clear p0 p1 c6 HPL hb1
      go_region_held3 (fun w' => w'.cell? ⟨g, 6, none⟩ = some (.slice ao st.rts.length cap) ∧ w'.cell? ⟨w.heap.size, 0, none⟩ = some (.int .i64 bt) ∧ w'.cell? ⟨w.heap.size, 1, none⟩ = some (.int .i64 ln) ∧ Below w1.heap.size w1 w')
        (first | exact HSS.out _ (by assumption) | exact HSS.out _ (Below.refl _ _).drew)
        (first | (go_at_call 43; refine (HPL1.out _ ?_).mono ?_; (exact (Below.refl _ _).drew); rintro e w3 ⟨rfl, hb3⟩))
      have hbw3 : Below w.heap.size w w3 := hbw1.trans (hb3.mono hbw1.size)
      have k6 := (HG.out.below hbw3).rv
      have kf := (hbw3.frozen (p := ⟨g, 6, none⟩) hgz).trans f6
      have HW3 : Hid (Below w.heap.size w w3) := hbw3
      have HP3 : Hid (PfVar w3 w.heap.size bt ln) := HP1.out.below hb3
      have HO3 : Hid (ERow w3 w0.heap.size (.slice oo (tabS st).length oc) (tabS st)) := ERow.below HO.out hb3
      clear HPL1 HSS hb3 hbw1 HO
      by_cases hpl : plR st.rts pe bt ln < st.rts.length
      · have hx := anE_at HH.out.ok HCK.out.1 HCK.out.2.1 HCK.out.2.2 hpl
        have hat := plR_at hpl
        have HX : Hid (anE st pe bt ln pa = 0) := hx.1
        have HS : Hid (Sim ⟨st.c, st.rts.set (plR st.rts pe bt ln) ⟨(st.rts[plR st.rts pe bt ln]'hpl).pe, (st.rts[plR st.rts pe bt ln]'hpl).bt, (st.rts[plR st.rts pe bt ln]'hpl).ln, pa⟩, st.rls⟩ (anS st pe bt ln pa)) := by
          rw [hat.1, hat.2.1, hat.2.2]; exact hx.2
        have HOK : Hid (GsOK (anS st pe bt ln pa)) := HH.out.ok.an pe bt ln pa
        obtain ⟨rk, lc', d6, hrz, hfz, hcz, hset⟩ := HH.out.rowR (by omega)
        have e := HG.out.rv.symm.trans d6
        simp only [Option.some.injEq, Value.slice.injEq, true_and] at e
        obtain ⟨rfl, rfl⟩ := e
        obtain ⟨u, hu⟩ := hcz _ hpl
        have hfk := (hbw3.frozen (p := ⟨rk, plR st.rts pe bt ln * 4 + 3, none⟩) hrz).trans (hfz (plR st.rts pe bt ln * 4 + 3))
        have hu3 := (hbw3.cell (p := ⟨rk, plR st.rts pe bt ln * 4 + 3, none⟩) hrz).trans hu
        have HST : Hid (LGate (w3.setCell ⟨rk, plR st.rts pe bt ln * 4 + 3, none⟩ (.int .i64 pa)) g ⟨st.c, st.rts.set (plR st.rts pe bt ln) ⟨(st.rts[plR st.rts pe bt ln]'hpl).pe, (st.rts[plR st.rts pe bt ln]'hpl).bt, (st.rts[plR st.rts pe bt ln]'hpl).ln, pa⟩, st.rls⟩ F ∧ Off F w (w3.setCell ⟨rk, plR st.rts pe bt ln * 4 + 3, none⟩ (.int .i64 pa))) := hset _ hpl pa hbw3 (GsOK.sim HS.out HOK.out)
        clear hx hat d6 hfz hcz hset HOK hu hbw3
        generalize hS' : st.rts.set (plR st.rts pe bt ln) ⟨(st.rts[plR st.rts pe bt ln]'hpl).pe, (st.rts[plR st.rts pe bt ln]'hpl).bt, (st.rts[plR st.rts pe bt ln]'hpl).ln, pa⟩ = S' at HS HST
        clear hS'
        generalize plR st.rts pe bt ln = k at *
        go_wp2_with (go_at_call 44; refine (since_any HH.out.ok HST.out.1 (HO3.out.over (Below.refl _ _) (Nat.lt_of_lt_of_le hrz hzO))).mono ?_; rintro e w6 ⟨⟨xa, xc, rfl, hW⟩, hb6⟩)
        go_ret2
        exact LPost.yes HH.out.ok HST.out.1 (fun b hf => .inl hf) HST.out.2 hW hb6 HX HS.out
      · obtain ⟨hxe, hxs⟩ := anE_new (st := st) HCK.out.1 HCK.out.2.1 HCK.out.2.2 hpl
        by_cases hfull : 24 ≤ st.rts.length
        · have HX : Hid (anE st pe bt ln pa = 10) := by show _ = _; rw [hxe, if_pos hfull]
          have HS : Hid (anS st pe bt ln pa = st) := anS_nz (by rw [HX.out]; decide)
          have g5 : st.rts.length ≤ plR st.rts pe bt ln := by omega
          clear hxe hxs hpl
          generalize plR st.rts pe bt ln = k at *
          go_wp2_with fail
          go_ret2
          exact LPost.no HH.out HW3.out HX HS
        · have HX : Hid (anE st pe bt ln pa = 0) := by show _ = _; rw [hxe, if_neg hfull]
          have HS : Hid (anS st pe bt ln pa = ⟨st.c, st.rts ++ [⟨pe, bt, ln, pa⟩], st.rls⟩) := hxs (by omega)
          have HOK : Hid (GsOK (anS st pe bt ln pa)) := HH.out.ok.an pe bt ln pa
          have g5 : st.rts.length ≤ plR st.rts pe bt ln := by omega
          have g6 : st.rts.length < 24 := by omega
          clear hxe hxs hpl hfull
          generalize plR st.rts pe bt ln = k at *
          obtain ⟨p0, p1, _, _⟩ := HP3.out.get
          go_upto_region 13 with fail
          obtain ⟨rv, lv, hgw, hrow0, _, hrF, hlF, hrl⟩ := HH.out.ex
          have erv : some (Value.slice ao st.rts.length cap) = some rv := HG.out.rv.symm.trans (cell_of_row w g 6 _ _ _ hgw)
          injection erv with erv
          subst erv
          have HR3 : Hid (w3.ownsRow 0 100 4 (.slice ao st.rts.length cap) st.rts.length (rtCs st.rts)) := ownsRow_below hrow0 (HW3.out.mono (Nat.le_refl _))
          have nga : some g ≠ (Value.slice ao st.rts.length cap).ownBlock := fun e => (hrF g e.symm).2 rfl
          have h63 : Hid (st.rts.length + 1 ≤ maxLen) := by show _ ≤ _; unfold maxLen; omega
          have hby : Hid ((st.rts.length + 1) * 32 ≤ 140737488355328) := by show _ ≤ _; omega
          have hg3 : g < w3.heap.size := by have := hbw3.size; omega
          have K6 : Hid (w3.cell? ⟨g, 6, none⟩ = some (.slice ao st.rts.length cap)) := k6
          go_region_law
            ((refine step_append_lies _ (by rfl) _ _ 70 (by rfl) 0 100 i0 _ 4 32 Tryz.underlying70 hi hz0 hz1 hz2 rfl (by decide) _ _ _ (by rfl) (ownsRow_below HR3.out ((Below.refl _ _).alloc (Nat.le_refl _) _).drew) ⟨w3.heap.size, 0, none⟩ 1 1 (rtC ⟨pe, bt, ln, pa⟩) (by rfl) rfl (World.news_of_block (heap_alloc_new w3 _)) (rtC_one _) (by decide) h63.out hby.out (Nat.zero_le _) _ rfl ?_; intro g' cp w8 hown hgrow hat hlt8; have hb8 : w8.heap[g]? = w3.heap[g]? := (hgrow.block g (by simp; omega) nga).trans ((below_alloc w3 _).block g hg3); have q6 : w8.frozen? ⟨g, 6, none⟩ = false := (World.frozen?_of_block (w := w3) (a := ⟨g, 6, none⟩) hb8).trans kf; have q7 : w8.cell? ⟨g, 6, none⟩ = some (.slice ao st.rts.length cap) := (World.cell?_of_block (w := w3) (a := ⟨g, 6, none⟩) hb8).trans K6.out))
          all_goals
            have hsz := hgrow.size
            have hsz : w3.heap.size + 1 ≤ w8.heap.size := by simpa using hsz
            have hz3 := HW3.out.size
            have hall : ∀ b, b < w3.heap.size → some b ≠ (Value.slice ao st.rts.length cap).ownBlock → w8.heap[b]? = w3.heap[b]? := fun b hb hne => (hgrow.block b (by simp; omega) hne).trans ((below_alloc w3 _).block b hb)
            have hoff : Off F w w8 := ⟨hgrow.os.trans HW3.out.os, hgrow.tape.trans HW3.out.tape, hgrow.output.trans HW3.out.output, by omega, fun b hb hn => (hall b (by omega) (fun e => hn (hrF b e.symm).1)).trans (HW3.out.block b hb)⟩
            obtain ⟨F', r1, r2, r3⟩ := HH.out.setR (v := .slice (some ⟨g', 0, none⟩) (st.rts.length + 1) cp) (rts := st.rts ++ [⟨pe, bt, ln, pa⟩]) hoff (hb8.trans (HW3.out.block g hgz)) (fun b hf hne hr => (hall b (by have := HH.out.lt b hf; omega) (fun e => hr _ HG.out.rv e.symm)).trans (HW3.out.block b (HH.out.lt b hf))) (LRt.snoc hown)
              (fun b hb => by
                have eb : g' = b := by simpa [Value.ownBlock] using hb
                subst eb
                have hlv : ∀ lv', w.cell? ⟨g, 7, none⟩ = some lv' → lv' = lv := fun lv' hl' => by
                  have := hl'.symm.trans (cell_of_row w g 7 _ _ _ hgw)
                  injection this
                rcases hat with hat | hat
                · exact ⟨(hrF _ hat).2, fun lv' hl' e => by rw [hlv lv' hl'] at e; exact hrl _ hat e, .inl (hrF _ hat).1⟩
                · have hg' : w3.heap.size < g' := by rw [hat]; simp
                  exact ⟨by omega, fun lv' hl' e => by rw [hlv lv' hl'] at e; have := HH.out.lt _ (hlF _ e).1; omega, .inr (by omega)⟩)
              (by have := HOK.out; rw [HS.out] at this; exact this)
            have hO8 : ERow w8 w0.heap.size (.slice oo (tabS st).length oc) (tabS st) := HO3.out.same fun b hb => by
              have hl := World.ownsRow.lt HO3.out b hb
              exact hall b hl.2 (fun e => by have := HH.out.lt b (hrF b e.symm).1; omega)
            have R1 : Hid (LGate (w8.setCell ⟨g, 6, none⟩ (.slice (some ⟨g', 0, none⟩) (st.rts.length + 1) cp)) g ⟨st.c, st.rts ++ [⟨pe, bt, ln, pa⟩], st.rls⟩ F') := r1
            clear hown hgrow hat hall hoff r1
            go_wp2_with (go_at_call 44; refine (since_any HH.out.ok R1.out (hO8.over (Below.refl _ _) (Nat.lt_of_lt_of_le hgz hzO))).mono ?_; rintro e w6 ⟨⟨xa, xc, rfl, hW⟩, hb6⟩)
            go_ret2
            exact LPost.yes HH.out.ok R1.out r2 r3 hW hb6 HX (by rw [HS.out]; exact Sim.refl _)
end Go.Proofs.YtgkiknfpcbcnnaaGreat
namespace Go.Proofs.YtgkiknfpcbcnnaaGreat
open Go.RowKit
set_option maxRecDepth 20000
def landGate : XGate where
  toXBase := landBase
  table := fun {w x st F} h => by
    unfold ptrV
    refine (landTable_any x st F w h).mono ?_
    rintro e w' ⟨⟨v, rfl, hr⟩, hb⟩
    exact ⟨v, F, rfl, hr, h.same hb.size (fun b hf => hb.block b (h.lt b hf)), fun b hf => .inl hf, fun b hf e => by have := (World.ownsRow.lt hr b e).1; have := h.lt b hf; omega, Off.of hb⟩
  lookup := fun {w x st F} hd h => by
    unfold ptrV
    refine (landLookup_any x st F hd w h).mono ?_
    rintro e w' ⟨rfl, hb⟩
    exact ⟨F, rfl, h.same hb.size (fun b hf => hb.block b (h.lt b hf)), fun b hf => .inl hf, Off.of hb⟩
  announceW := fun {w x st F} pe bt ln pa h _ _ _ _ => by unfold ptrV; exact landAnnounce_any x st F pe bt ln pa w h
  withdrawW := fun {w x st F} pe bt ln h _ _ _ => by unfold ptrV; exact landWithdraw_any x st F pe bt ln w h
  addW := fun {w x st F} pe tx ac h _ _ hs => by unfold ptrV; exact landAdd_any x st F pe tx ac w h hs
  removeW := fun {w x st F} pe tx h _ hs => by unfold ptrV; exact landRemove_any x st F pe tx w h hs
  resetW := fun {w x st F} pe h _ => by unfold ptrV; exact landReset_any x st F pe w h
end Go.Proofs.YtgkiknfpcbcnnaaGreat
