import Derived.Test.YtgkiknfpcbcnnaaGreatTcc
import Derived.Deep.RegionHeldLaw
import Derived.Deep.RegionLaw
import Derived.Deep.AppendLies
namespace Go.Proofs.YtgkiknfpcbcnnaaGreat
open Go.RowKit
set_option maxRecDepth 20000
def ckR (pe bt ln : Int) : Int := if peOK pe then (if prefOK bt ln then 0 else 7) else 6
theorem checkRoute_any (pe bt ln : Int) (w : World) : Calls Tryz.prog 42 #[.int .i64 pe, .agg #[.int .i64 bt, .int .i64 ln]] w fun e w' => e = .returned (.int .i64 (ckR pe bt ln)) ∧ Below w.heap.size w w' := by
  obtain ⟨R, hR⟩ : ∃ R, R = ckR pe bt ln := ⟨_, rfl⟩
  have HR : Hid (R = ckR pe bt ln) := hR
  rw [← hR]; clear hR
  cases hp : peOK pe
  · have HF : Hid (R = 6) := by show _ = _; rw [HR.out]; unfold ckR; rw [hp]; rfl
    have HQ : Hid (peOK pe = false) := hp
    clear HR hp
    go_enter Tryz.func42, Tryz.ntmps42
    go_wp2_with (go_at_call 58; refine (isPeer_any _ _).mono ?_; rintro e w' ⟨rfl, rfl⟩; rw [HQ.out])
    go_ret
    exact ⟨by rw [HF.out]; rfl, below_alloc _ _⟩
  · have HQ : Hid (peOK pe = true) := hp
    cases hq : prefOK bt ln
    · have HF : Hid (R = 7) := by show _ = _; rw [HR.out]; unfold ckR; rw [hp, hq]; rfl
      have HQ2 : Hid (prefOK bt ln = false) := hq
      clear HR hp hq
      go_enter Tryz.func42, Tryz.ntmps42
      go_wp2_with (first
        | (go_at_call 58; refine (isPeer_any _ _).mono ?_; rintro e w' ⟨rfl, rfl⟩; rw [HQ.out])
        | (go_at_call 69; refine (isPrefix_any _ _ _).mono ?_; rintro e w1 ⟨rfl, hb1⟩; rw [HQ2.out]))
      go_ret
      exact ⟨by rw [HF.out]; rfl, below_first hb1⟩
    · have HF : Hid (R = 0) := by show _ = _; rw [HR.out]; unfold ckR; rw [hp, hq]; rfl
      have HQ2 : Hid (prefOK bt ln = true) := hq
      clear HR hp hq
      go_enter Tryz.func42, Tryz.ntmps42
      go_wp2_with (first
        | (go_at_call 58; refine (isPeer_any _ _).mono ?_; rintro e w' ⟨rfl, rfl⟩; rw [HQ.out])
        | (go_at_call 69; refine (isPrefix_any _ _ _).mono ?_; rintro e w1 ⟨rfl, hb1⟩; rw [HQ2.out]))
      go_ret
      exact ⟨by rw [HF.out]; rfl, below_first hb1⟩
def ckC (pe : Int) (tx : ByteArray) : Int := if peOK pe then (if (decS tx).isSome then 0 else 1) else 6
theorem checkClaim_any (pe : Int) (tx : ByteArray) (w : World) (hs : tx.size ≤ 140737488351232) : Calls Tryz.prog 50 #[.int .i64 pe, .string tx] w fun e w' => e = .returned (.int .i64 (ckC pe tx)) ∧ Below w.heap.size w w' := by
  obtain ⟨R, hR⟩ : ∃ R, R = ckC pe tx := ⟨_, rfl⟩
  have HR : Hid (R = ckC pe tx) := hR
  rw [← hR]; clear hR
  cases hp : peOK pe
  · have HF : Hid (R = 6) := by show _ = _; rw [HR.out]; unfold ckC; rw [hp]; rfl
    have HQ : Hid (peOK pe = false) := hp
    clear HR hp
    go_enter Tryz.func50, Tryz.ntmps50
    go_wp2_with (go_at_call 58; refine (isPeer_any _ _).mono ?_; rintro e w' ⟨rfl, rfl⟩; rw [HQ.out])
    go_ret
    exact ⟨by rw [HF.out]; rfl, Below.refl _ _⟩
  · have HQ : Hid (peOK pe = true) := hp
    have HF : Hid (R = eS tx) := by
      show _ = _
      rw [HR.out]
      unfold ckC
      rw [hp, if_pos rfl]
      cases hd : (decS tx).isSome
      · rw [eS_none hd]; rfl
      · rw [eS_some hd]; rfl
    clear HR hp
    go_enter Tryz.func50, Tryz.ntmps50
    go_wp2_with (first
      | (go_at_call 58; refine (isPeer_any _ _).mono ?_; rintro e w' ⟨rfl, rfl⟩; rw [HQ.out])
      | (go_at_call 73; refine (flow2 tx _ hs).mono ?_; rintro e w1 ⟨hb1, ao, cap, qs, rfl, hq, hrule⟩))
    go_ret
    exact ⟨by rw [HF.out]; rfl, hb1.alloc hb1.size _⟩
theorem LGate.setR {w w4 : World} {g : Nat} {st : Gs} {F : Nat → Prop} {v : Value} {rts : List Rt} (h : LGate w g st F) (hb : Off F w w4) (hg4 : w4.heap[g]? = w.heap[g]?) (hl4 : ∀ b, F b → b ≠ g → (∀ rv, w.cell? ⟨g, 6, none⟩ = some rv → rv.ownBlock ≠ some b) → w4.heap[b]? = w.heap[b]?) (hrow : w4.ownsRow 0 100 4 v rts.length (rtCs rts)) (hv : ∀ b, v.ownBlock = some b → b ≠ g ∧ ((∀ lv, w.cell? ⟨g, 7, none⟩ = some lv → lv.ownBlock ≠ some b)) ∧ (F b ∨ w.heap.size ≤ b)) (hok : GsOK { st with rts := rts }) :
    ∃ F', LGate (w4.setCell ⟨g, 6, none⟩ v) g { st with rts := rts } F' ∧ (∀ b, F' b → F b ∨ w.heap.size ≤ b) ∧ Off F w (w4.setCell ⟨g, 6, none⟩ v) := by
  obtain ⟨rv, lv, h1, h2, h3, h4, h5, h6⟩ := h.ex
  have hg := h.lt g h.own
  have hsz : (w4.setCell ⟨g, 6, none⟩ v).heap.size = w4.heap.size := by simp only [World.setCell, Array.size_modify]
  have hz := hb.size
  have e1 : w4.heap[g]? = _ := hg4.trans h1
  have e2 := heap_setCell_same w4 g 6 _ _ v e1
  have oth : ∀ b, b ≠ g → (w4.setCell ⟨g, 6, none⟩ v).heap[b]? = w4.heap[b]? := fun b hne => Below.heap_setCell _ _ _ _ hne
  have c6 := cell_of_row w g 6 _ _ _ h1
  have c7 := cell_of_row w g 7 _ _ _ h1
  have hl : ∀ b, lv.ownBlock = some b → w4.heap[b]? = w.heap[b]? := fun b hbk => hl4 b (h5 b hbk).1 (h5 b hbk).2 (fun rv' hr e => by
    have : some rv' = some rv := hr.symm.trans c6
    injection this with e'
    subst e'
    exact h6 b e hbk)
  refine ⟨Fr F w w4, ⟨⟨v, lv, e2, ownsRow_same hrow (fun b hbk => oth b (hv b hbk).1), ownsRow_same h3 (fun b hbk => (oth b (h5 b hbk).2).trans (hl b hbk)), ?_, fun b hbk => ⟨.inl (h5 b hbk).1, (h5 b hbk).2⟩, fun b hbk => (hv b hbk).2.1 lv c7⟩, .inl h.own, hok, h.srt, h.sz, ?_⟩, ?_, hb.setCell (.inl h.own) v⟩
  · intro b hbk
    refine ⟨?_, (hv b hbk).1⟩
    rcases (hv b hbk).2.2 with hf | hf
    · exact .inl hf
    · exact .inr ⟨hf, (World.ownsRow.lt hrow b hbk).2⟩
  · intro b hf
    rw [hsz]
    rcases hf with hf | hf
    · have := h.lt b hf; omega
    · exact hf.2
  · intro b hf
    rcases hf with hf | hf
    · exact .inl hf
    · exact .inr hf.1
theorem LGate.setC {w w4 : World} {g : Nat} {st : Gs} {F : Nat → Prop} {v : Value} {rls : List Rl} (h : LGate w g st F) (hb : Below w.heap.size w w4) (hrow : w4.ownsRow w.heap.size 110 3 v rls.length (clCs rls)) (hok : GsOK { st with rls := rls }) (hsrt : Srt rls) (hsz0 : ∀ r ∈ rls, r.tx.size ≤ 140737488351232) :
    ∃ F', LGate (w4.setCell ⟨g, 7, none⟩ v) g { st with rls := rls } F' ∧ (∀ b, F' b → F b ∨ w.heap.size ≤ b) ∧ Off F w (w4.setCell ⟨g, 7, none⟩ v) := by
  obtain ⟨rv, lv, h1, h2, h3, h4, h5, h6⟩ := h.ex
  have hg := h.lt g h.own
  have hsz : (w4.setCell ⟨g, 7, none⟩ v).heap.size = w4.heap.size := by simp only [World.setCell, Array.size_modify]
  have hz := hb.size
  have e1 : w4.heap[g]? = _ := (hb.block g hg).trans h1
  have e2 := heap_setCell_same w4 g 7 _ _ v e1
  have oth : ∀ b, b ≠ g → (w4.setCell ⟨g, 7, none⟩ v).heap[b]? = w4.heap[b]? := fun b hne => Below.heap_setCell _ _ _ _ hne
  have old : ∀ b, F b → b ≠ g → (w4.setCell ⟨g, 7, none⟩ v).heap[b]? = w.heap[b]? := fun b hf hne => (oth b hne).trans (hb.block b (h.lt b hf))
  have hvb : ∀ b, v.ownBlock = some b → w.heap.size ≤ b ∧ b < w4.heap.size := fun b hbk => World.ownsRow.lt hrow b hbk
  refine ⟨Fr F w w4, ⟨⟨rv, v, e2, ownsRow_same h2 (fun b hbk => old b (h4 b hbk).1 (h4 b hbk).2), ownsRow_base (ownsRow_same hrow (fun b hbk => oth b (by have := hvb b hbk; omega))) (Nat.zero_le _), fun b hbk => ⟨.inl (h4 b hbk).1, (h4 b hbk).2⟩, fun b hbk => ⟨.inr (hvb b hbk), by have := hvb b hbk; omega⟩, fun b hbk e => by have := hvb b e; have := h.lt b (h4 b hbk).1; omega⟩, .inl h.own, hok, hsrt, hsz0, ?_⟩, ?_, (Off.of hb).setCell (.inl h.own) v⟩
  · intro b hf
    rw [hsz]
    rcases hf with hf | hf
    · have := h.lt b hf; omega
    · exact hf.2
  · intro b hf
    rcases hf with hf | hf
    · exact .inl hf
    · exact .inr hf.1
theorem LGate.setR' {w w4 : World} {g : Nat} {st : Gs} {F : Nat → Prop} {v : Value} {rts : List Rt} (h : LGate w g st F) (hb : Below w.heap.size w w4) (hrow : w4.ownsRow w.heap.size 100 4 v rts.length (rtCs rts)) (hok : GsOK { st with rts := rts }) :
    ∃ F', LGate (w4.setCell ⟨g, 6, none⟩ v) g { st with rts := rts } F' ∧ (∀ b, F' b → F b ∨ w.heap.size ≤ b) ∧ Off F w (w4.setCell ⟨g, 6, none⟩ v) := by
  obtain ⟨rv, lv, h1, h2, h3, h4, h5, h6⟩ := h.ex
  refine h.setR (Off.of hb) (hb.block g (h.lt g h.own)) (fun b hf _ _ => hb.block b (h.lt b hf)) (ownsRow_base hrow (Nat.zero_le _)) (fun b hbk => ?_) hok
  have hvb := World.ownsRow.lt hrow b hbk
  refine ⟨by have := h.lt g h.own; omega, fun lv' hl e => ?_, .inr hvb.1⟩
  have c7 := cell_of_row w g 7 _ _ _ h1
  have : some lv' = some lv := hl.symm.trans c7
  injection this with e'
  subst e'
  have := h.lt b (h5 b e).1
  omega
theorem anS_nz {st : Gs} {pe bt ln pa : Int} (h : anE st pe bt ln pa ≠ 0) : anS st pe bt ln pa = st := by unfold anS; rw [if_neg h]
theorem wiS_nz {st : Gs} {pe bt ln : Int} (h : wiE st pe bt ln ≠ 0) : wiS st pe bt ln = st := by unfold wiS; rw [if_neg h]
theorem adS_nz {st : Gs} {pe : Int} {tx : ByteArray} {ac : Int} (h : adE st pe tx ac ≠ 0) : adS st pe tx ac = st := by unfold adS; rw [if_neg h]
theorem reS_nz {st : Gs} {pe : Int} {tx : ByteArray} (h : reE st pe tx ≠ 0) : reS st pe tx = st := by unfold reS; rw [if_neg h]
set_option maxHeartbeats 1600000 in
theorem landWithdraw_any (g : Nat) (st : Gs) (F : Nat → Prop) (pe bt ln : Int) (w : World) (h : LGate w g st F) :
    Calls Tryz.prog 25 #[.pointer (some ⟨g, 0, none⟩), .int .i64 pe, .agg #[.int .i64 bt, .int .i64 ln]] w fun e w' => XPostW LGate F w g st (wiE st pe bt ln) (wiS st pe bt ln) e w' := by
  have HH : Hid (LGate w g st F) := h
  obtain ⟨ao, cap, lo, lc, hread, c7, hcl, f6, f7⟩ := h.read
  have HG : Hid (GRead w g st.c ao cap st.rts) := hread
  have hgz := hread.lt
  have h24 := hread.r24
  clear h hread hcl c7 f7
  obtain ⟨wA, hwA⟩ : ∃ wA, wA = w.alloc (.cells #[.int .i64 bt, .int .i64 ln] 39) := ⟨_, rfl⟩
  have HWA : Hid (wA = w.alloc (.cells #[.int .i64 bt, .int .i64 ln] 39)) := hwA
  have hbA : Below w.heap.size w wA := by rw [hwA]; exact below_alloc _ _
  have HPA : Hid (PfVar wA w.heap.size bt ln) := by show _ = _; rw [hwA]; exact heap_alloc_new w _
  clear hwA
  have hzA := hbA.size
  cases hck : (peOK pe && prefOK bt ln)
  · have hx : wiE st pe bt ln = ckR pe bt ln ∧ ckR pe bt ln ≠ 0 := by
      unfold wiE ckR
      cases hp : peOK pe
      · simp
      · cases hq : prefOK bt ln
        · simp
        · rw [hp, hq] at hck; simp at hck
    have HX : Hid (wiE st pe bt ln = ckR pe bt ln) := hx.1
    have HS : Hid (wiS st pe bt ln = st) := wiS_nz (by rw [hx.1]; exact hx.2)
    have q1 : (ckR pe bt ln != 0) = true := by simpa using hx.2
    clear hx hck
    go_enter Tryz.func25, Tryz.ntmps25
    go_wp2_with (go_at_call 42; rw [← HWA.out]; refine (checkRoute_any _ _ _ _).mono ?_; rintro e w1 ⟨rfl, hb1⟩)
    go_ret2
    exact LPost.no HH.out (hbA.trans (hb1.mono hzA)) HX HS
  · rw [Bool.and_eq_true] at hck
    have hc0 : ckR pe bt ln = 0 := by unfold ckR; rw [hck.1, hck.2]; rfl
    have HC : Hid (∀ w, Calls Tryz.prog 42 #[.int .i64 pe, .agg #[.int .i64 bt, .int .i64 ln]] w fun e w' => e = .returned (.int .i64 0) ∧ Below w.heap.size w w') := fun w => by rw [← hc0]; exact checkRoute_any pe bt ln w
    have HPL : Hid (∀ w', Below w.heap.size w w' → Calls Tryz.prog 43 #[.slice ao st.rts.length cap, .int .i64 pe, .agg #[.int .i64 bt, .int .i64 ln]] w' fun e w'' => e = .returned (.int .i64 (plR st.rts pe bt ln : Nat)) ∧ Below w.heap.size w w'' ∧ Below w'.heap.size w' w'') := fun w' hb' => (placeOfRoute_any st.rts ao cap pe bt ln w' (HG.out.rin.below hb') h24).mono fun e w'' h'' => ⟨h''.1, hb'.trans (h''.2.mono hb'.size), h''.2⟩
    have HRW : Hid (∀ (k : Nat) w', Below w.heap.size w w' → Calls Tryz.prog 49 #[.slice ao st.rts.length cap, .int .i64 (k : Int)] w' fun e w'' => (∃ v, e = .returned v ∧ LRt w'' w'.heap.size v (st.rts.eraseIdx k)) ∧ Below w'.heap.size w' w'') := fun k w' hb' => routesWithout_any st.rts ao cap k w' (HG.out.rin.below hb') h24
    go_enter Tryz.func25, Tryz.ntmps25
    go_upto_region 4 with (go_at_call 42; rw [← HWA.out]; refine (HC.out _).mono ?_; rintro e w1 ⟨rfl, hb1⟩)
    have hbw1 : Below w.heap.size w w1 := hbA.trans (hb1.mono hzA)
    have HP1 : Hid (PfVar w1 w.heap.size bt ln) := HPA.out.below hb1
    obtain ⟨p0, p1, _, _⟩ := HP1.out.get
    have c6 := (HG.out.below hbw1).rv
    have HSS : Hid (∀ w', Below w1.heap.size w1 w' → w'.cell? ⟨g, 6, none⟩ = some (.slice ao st.rts.length cap) ∧ w'.cell? ⟨w.heap.size, 0, none⟩ = some (.int .i64 bt) ∧ w'.cell? ⟨w.heap.size, 1, none⟩ = some (.int .i64 ln) ∧ Below w1.heap.size w1 w') := fun w' hx =>
      ⟨(hx.cell (p := ⟨g, 6, none⟩) (by show g < w1.heap.size; have := hbw1.size; omega)).trans c6, (hx.cell (p := ⟨w.heap.size, 0, none⟩) (lt_of_block HP1.out)).trans p0, (hx.cell (p := ⟨w.heap.size, 1, none⟩) (lt_of_block HP1.out)).trans p1, hx⟩
    have HPL1 : Hid (∀ w', Below w1.heap.size w1 w' → Calls Tryz.prog 43 #[.slice ao st.rts.length cap, .int .i64 pe, .agg #[.int .i64 bt, .int .i64 ln]] w' fun e w'' => e = .returned (.int .i64 (plR st.rts pe bt ln : Nat)) ∧ Below w1.heap.size w1 w'') := fun w' hb' => (HPL.out w' (hbw1.trans (hb'.mono hbw1.size))).mono fun e w'' h'' => ⟨h''.1, hb'.trans (h''.2.2.mono hb'.size)⟩
    clear p0 p1 c6 HPL hb1
    go_region_held3 (fun w' => w'.cell? ⟨g, 6, none⟩ = some (.slice ao st.rts.length cap) ∧ w'.cell? ⟨w.heap.size, 0, none⟩ = some (.int .i64 bt) ∧ w'.cell? ⟨w.heap.size, 1, none⟩ = some (.int .i64 ln) ∧ Below w1.heap.size w1 w')
      (first | exact HSS.out _ (by assumption) | exact HSS.out _ (Below.refl _ _).drew)
      (first | (go_at_call 43; refine (HPL1.out _ ?_).mono ?_; (exact (Below.refl _ _).drew); rintro e w3 ⟨rfl, hb3⟩))
    have hbw3 : Below w.heap.size w w3 := hbw1.trans (hb3.mono hbw1.size)
    have k6 := (HG.out.below hbw3).rv
    have kf := (hbw3.frozen (p := ⟨g, 6, none⟩) hgz).trans f6
    have HW3 : Hid (Below w.heap.size w w3) := hbw3
    clear HPL1 HSS hb3 hbw1
    by_cases hpl : plR st.rts pe bt ln < st.rts.length
    · have hx := wiE_at HH.out.ok hck.1 hck.2 hpl
      have HX : Hid (wiE st pe bt ln = 0) := hx.1
      have HS : Hid (wiS st pe bt ln = ⟨st.c, st.rts.eraseIdx (plR st.rts pe bt ln), st.rls⟩) := hx.2
      have HOK : Hid (GsOK (wiS st pe bt ln)) := HH.out.ok.wi pe bt ln
      clear hx hck hc0
      generalize plR st.rts pe bt ln = k at *
      have HOE : Hid (GsOK ⟨st.c, st.rts.eraseIdx k, st.rls⟩) := by have := HOK.out; rw [HS.out] at this; exact this
      go_wp2_with (first
        | (go_at_call 38; refine (tabled_any HH.out HW3.out).mono ?_; rintro e w2 ⟨⟨oo, oc, rfl, hO⟩, _, hbw2⟩; have x6 := (HG.out.below hbw2).rv)
        | (go_at_call 49; refine (HRW.out k _ hbw2).mono ?_; rintro e w4 ⟨⟨v, rfl, hrow⟩, hb4⟩; obtain ⟨vo, vc, rfl⟩ := ownsRow_shape hrow; have hbw4 : Below w.heap.size w w4 := hbw2.trans (hb4.mono hbw2.size); have y6 := (HG.out.below hbw4).rv; have yf := (hbw4.frozen (p := ⟨g, 6, none⟩) hgz).trans f6)
        | (go_at_call 44; obtain ⟨F', r1, r2, r3⟩ := HH.out.setR' hbw4 (ownsRow_base hrow hbw2.size) HOE.out; refine (since_any HH.out.ok r1 (hO.over hb4 (Nat.lt_of_lt_of_le hgz HW3.out.size))).mono ?_; rintro e w6 ⟨⟨xa, xc, rfl, hW⟩, hb6⟩))
      go_ret2
      exact LPost.yes HH.out.ok r1 r2 r3 hW hb6 HX (by rw [HS.out]; exact Sim.refl _)
    · have hx := wiE_none (st := st) hck.1 hck.2 hpl
      have HX : Hid (wiE st pe bt ln = 11) := hx
      have HS : Hid (wiS st pe bt ln = st) := wiS_nz (by rw [hx]; decide)
      have g5 : st.rts.length ≤ plR st.rts pe bt ln := by omega
      clear hx hck hc0 hpl
      generalize plR st.rts pe bt ln = k at *
      go_wp2_with fail
      go_ret2
      exact LPost.no HH.out HW3.out HX HS
end Go.Proofs.YtgkiknfpcbcnnaaGreat
namespace Go.Proofs.YtgkiknfpcbcnnaaGreat
open Go.RowKit
set_option maxRecDepth 20000
theorem LGate.rowC {w : World} {g : Nat} {st : Gs} {F : Nat → Prop} (h : LGate w g st F) (hl : 0 < st.rls.length) : ∃ rk lc, w.cell? ⟨g, 7, none⟩ = some (.slice (some ⟨rk, 0, none⟩) st.rls.length lc) ∧ rk < w.heap.size ∧ (∀ j, w.frozen? ⟨rk, j, none⟩ = false) ∧ (∀ k (_ : k < st.rls.length), ∃ u, w.cell? ⟨rk, k * 3 + 2, none⟩ = some u) ∧
    ∀ {w3 : World} (k : Nat) (hk : k < st.rls.length) (ac : Int), Below w.heap.size w w3 → GsOK { st with rls := st.rls.set k ⟨st.rls[k].tx, st.rls[k].pe, ac⟩ } → LGate (w3.setCell ⟨rk, k * 3 + 2, none⟩ (.int .i64 ac)) g { st with rls := st.rls.set k ⟨st.rls[k].tx, st.rls[k].pe, ac⟩ } F ∧ Off F w (w3.setCell ⟨rk, k * 3 + 2, none⟩ (.int .i64 ac)) := by
  obtain ⟨rv, lv, h1, h2, h3, h4, h5, h6⟩ := h.ex
  have h3' := h3
  rcases h3.2 with ⟨_, h0⟩ | ⟨rk, lc, cur, rfl, _, hh, _, _, hcs, htk⟩
  · omega
  · have hF := h5 rk rfl
    have hin := ClIn.of h3
    refine ⟨rk, lc, cell_of_row w g 7 _ _ _ h1, lt_of_block hh, fun j => frozen_of_row w rk j cur _ hh, fun k hk => ?_, ?_⟩
    · obtain ⟨b, off, e, _, _, _, c2⟩ := hin k hk
      simp only [Option.some.injEq, Addr.mk.injEq, and_true] at e
      obtain ⟨rfl, rfl⟩ := e
      rw [Nat.zero_add] at c2
      exact ⟨_, c2⟩
    · intro w3 k hk ac hb hok
      have hsz : (w3.setCell ⟨rk, k * 3 + 2, none⟩ (.int .i64 ac)).heap.size = w3.heap.size := by simp only [World.setCell, Array.size_modify]
      have oth : ∀ b, b ≠ rk → (w3.setCell ⟨rk, k * 3 + 2, none⟩ (.int .i64 ac)).heap[b]? = w3.heap[b]? := fun b hne => Below.heap_setCell _ _ _ _ hne
      have old : ∀ b, F b → b ≠ rk → (w3.setCell ⟨rk, k * 3 + 2, none⟩ (.int .i64 ac)).heap[b]? = w.heap[b]? := fun b hf hne => (oth b hne).trans (hb.block b (h.lt b hf))
      refine ⟨⟨⟨rv, _, (old g h.own (fun e => hF.2 e.symm)).trans h1, ownsRow_same h2 (fun b hbk => old b (h4 b hbk).1 (fun e => by subst e; exact h6 b hbk rfl)), ?_, h4, h5, h6⟩, h.own, hok, ?_, ?_, ?_⟩, (Off.of hb).setCell (.inl hF.1) _⟩
      · show World.ownsRow _ 0 _ 3 _ (st.rls.set k ⟨st.rls[k].tx, st.rls[k].pe, ac⟩).length (clCs (st.rls.set k ⟨st.rls[k].tx, st.rls[k].pe, ac⟩))
        rw [List.length_set, clCs_setAc]
        exact ownsRow_store (ownsRow_same h3' (fun b hbk => hb.block b (World.ownsRow.lt h3' b hbk).2)) _ _
      · exact Srt.set h.srt hk rfl
      · intro r hr
        rcases List.mem_or_eq_of_mem_set hr with hr | rfl
        · exact h.sz r hr
        · exact h.sz st.rls[k] (List.getElem_mem hk)
      · intro b hf
        rw [hsz]
        have := h.lt b hf
        have := hb.size
        omega
theorem LGate.rowR {w : World} {g : Nat} {st : Gs} {F : Nat → Prop} (h : LGate w g st F) (hl : 0 < st.rts.length) : ∃ rk lc, w.cell? ⟨g, 6, none⟩ = some (.slice (some ⟨rk, 0, none⟩) st.rts.length lc) ∧ rk < w.heap.size ∧ (∀ j, w.frozen? ⟨rk, j, none⟩ = false) ∧ (∀ k (_ : k < st.rts.length), ∃ u, w.cell? ⟨rk, k * 4 + 3, none⟩ = some u) ∧
    ∀ {w3 : World} (k : Nat) (hk : k < st.rts.length) (pa : Int), Below w.heap.size w w3 → GsOK { st with rts := st.rts.set k ⟨st.rts[k].pe, st.rts[k].bt, st.rts[k].ln, pa⟩ } → LGate (w3.setCell ⟨rk, k * 4 + 3, none⟩ (.int .i64 pa)) g { st with rts := st.rts.set k ⟨st.rts[k].pe, st.rts[k].bt, st.rts[k].ln, pa⟩ } F ∧ Off F w (w3.setCell ⟨rk, k * 4 + 3, none⟩ (.int .i64 pa)) := by
  obtain ⟨rv, lv, h1, h2, h3, h4, h5, h6⟩ := h.ex
  have h2' := h2
  rcases h2.2 with ⟨_, h0⟩ | ⟨rk, lc, cur, rfl, _, hh, _, _, hcs, htk⟩
  · omega
  · have hF := h4 rk rfl
    have hin := rtIn_of h2
    refine ⟨rk, lc, cell_of_row w g 6 _ _ _ h1, lt_of_block hh, fun j => frozen_of_row w rk j cur _ hh, fun k hk => ?_, ?_⟩
    · obtain ⟨b, off, e, _, _, _, _, c3⟩ := hin k hk
      simp only [Option.some.injEq, Addr.mk.injEq, and_true] at e
      obtain ⟨rfl, rfl⟩ := e
      rw [Nat.zero_add] at c3
      exact ⟨_, c3⟩
    · intro w3 k hk pa hb hok
      have hsz : (w3.setCell ⟨rk, k * 4 + 3, none⟩ (.int .i64 pa)).heap.size = w3.heap.size := by simp only [World.setCell, Array.size_modify]
      have oth : ∀ b, b ≠ rk → (w3.setCell ⟨rk, k * 4 + 3, none⟩ (.int .i64 pa)).heap[b]? = w3.heap[b]? := fun b hne => Below.heap_setCell _ _ _ _ hne
      have old : ∀ b, F b → b ≠ rk → (w3.setCell ⟨rk, k * 4 + 3, none⟩ (.int .i64 pa)).heap[b]? = w.heap[b]? := fun b hf hne => (oth b hne).trans (hb.block b (h.lt b hf))
      refine ⟨⟨⟨_, lv, (old g h.own (fun e => hF.2 e.symm)).trans h1, ?_, ownsRow_same h3 (fun b hbk => old b (h5 b hbk).1 (fun e => by subst e; exact h6 b rfl hbk)), h4, h5, h6⟩, h.own, hok, h.srt, h.sz, ?_⟩, (Off.of hb).setCell (.inl hF.1) _⟩
      · show World.ownsRow _ 0 _ 4 _ (st.rts.set k ⟨st.rts[k].pe, st.rts[k].bt, st.rts[k].ln, pa⟩).length (rtCs (st.rts.set k ⟨st.rts[k].pe, st.rts[k].bt, st.rts[k].ln, pa⟩))
        rw [List.length_set, rtCs_setPa]
        exact ownsRow_store (ownsRow_same h2' (fun b hbk => hb.block b (World.ownsRow.lt h2' b hbk).2)) _ _
      · intro b hf
        rw [hsz]
        have := h.lt b hf
        have := hb.size
        omega
set_option maxHeartbeats 1600000 in
theorem landRemove_any (g : Nat) (st : Gs) (F : Nat → Prop) (pe : Int) (tx : ByteArray) (w : World) (h : LGate w g st F) (hs : tx.size ≤ 140737488351232) :
    Calls Tryz.prog 29 #[.pointer (some ⟨g, 0, none⟩), .int .i64 pe, .string tx] w fun e w' => XPostW LGate F w g st (reE st pe tx) (reS st pe tx) e w' := by
  have HH : Hid (LGate w g st F) := h
  obtain ⟨ao, cap, lo, lc, hread, c7, hcl, f6, f7⟩ := h.read
  have HC : Hid (ClIn w lo st.rls) := hcl
  have hgz := hread.lt
  have h24 := h.ok.l24
  clear h hread hcl f6
  have HCK : Hid (∀ w, Calls Tryz.prog 50 #[.int .i64 pe, .string tx] w fun e w' => e = .returned (.int .i64 (ckC pe tx)) ∧ Below w.heap.size w w') := fun w => checkClaim_any pe tx w hs
  cases hck : (peOK pe && (decS tx).isSome)
  · have hx : reE st pe tx = ckC pe tx ∧ ckC pe tx ≠ 0 := by
      unfold reE ckC
      cases hp : peOK pe
      · simp
      · cases hq : (decS tx).isSome
        · simp
        · rw [hp, hq] at hck; simp at hck
    have HX : Hid (reE st pe tx = ckC pe tx) := hx.1
    have HS : Hid (reS st pe tx = st) := reS_nz (by rw [hx.1]; exact hx.2)
    have q1 : (ckC pe tx != 0) = true := by simpa using hx.2
    clear hx hck
    go_enter Tryz.func29, Tryz.ntmps29
    go_wp2_with (go_at_call 50; refine (HCK.out _).mono ?_; rintro e w1 ⟨rfl, hb1⟩)
    go_ret2
    exact LPost.no HH.out hb1 HX HS
  · rw [Bool.and_eq_true] at hck
    have hc0 : ckC pe tx = 0 := by unfold ckC; rw [hck.1, hck.2]; rfl
    rw [hc0] at HCK
    have HPL : Hid (∀ w', Below w.heap.size w w' → Calls Tryz.prog 51 #[.slice lo st.rls.length lc, .int .i64 pe, .string tx] w' fun e w'' => e = .returned (.int .i64 (plC st.rls pe tx : Nat)) ∧ Below w.heap.size w w'') := fun w' hb' => (placeOfClaim_any st.rls lo lc pe tx w' (HC.out.below hb') h24).mono fun e w'' h'' => ⟨h''.1, hb'.trans (h''.2.mono hb'.size)⟩
    have HRW : Hid (∀ (k : Nat) w', Below w.heap.size w w' → Calls Tryz.prog 57 #[.slice lo st.rls.length lc, .int .i64 (k : Int)] w' fun e w'' => (∃ v, e = .returned v ∧ LCl w'' w'.heap.size v (st.rls.eraseIdx k)) ∧ Below w'.heap.size w' w'') := fun k w' hb' => claimsWithout_any st.rls lo lc k w' (HC.out.below hb') h24
    by_cases hpl : plC st.rls pe tx < st.rls.length
    · have hx := reE_at HH.out.ok hck.1 hck.2 hpl
      have HX : Hid (reE st pe tx = 0) := hx.1
      have HS : Hid (reS st pe tx = ⟨st.c, st.rts, st.rls.eraseIdx (plC st.rls pe tx)⟩) := hx.2
      have HOK : Hid (GsOK (reS st pe tx)) := HH.out.ok.re pe tx
      clear hx hck hc0
      generalize plC st.rls pe tx = k at *
      have HOE : Hid (GsOK ⟨st.c, st.rts, st.rls.eraseIdx k⟩) := by have := HOK.out; rw [HS.out] at this; exact this
      go_enter Tryz.func29, Tryz.ntmps29
      go_wp2_with (first
        | (go_at_call 50; refine (HCK.out _).mono ?_; rintro e w1 ⟨rfl, hb1⟩; have k7 := (hb1.cell (p := ⟨g, 7, none⟩) hgz).trans c7)
        | (go_at_call 51; refine (HPL.out _ hb1).mono ?_; rintro e w3 ⟨rfl, hb3⟩; have k73 := (hb3.cell (p := ⟨g, 7, none⟩) hgz).trans c7)
        | (go_at_call 38; refine (tabled_any HH.out hb3).mono ?_; rintro e w2 ⟨⟨oo, oc, rfl, hO⟩, _, hbw2⟩; have x7 := (hbw2.cell (p := ⟨g, 7, none⟩) hgz).trans c7)
        | (go_at_call 57; refine (HRW.out k _ hbw2).mono ?_; rintro e w4 ⟨⟨v, rfl, hrow⟩, hb4⟩; obtain ⟨vo, vc, rfl⟩ := ownsRow_shape hrow; have hbw4 : Below w.heap.size w w4 := hbw2.trans (hb4.mono hbw2.size); have y7 := (hbw4.cell (p := ⟨g, 7, none⟩) hgz).trans c7; have yf := (hbw4.frozen (p := ⟨g, 7, none⟩) hgz).trans f7)
        | (go_at_call 44; obtain ⟨F', r1, r2, r3⟩ := HH.out.setC hbw4 (ownsRow_base hrow hbw2.size) HOE.out (HH.out.srt.erase k) (fun r hr => HH.out.sz r (List.mem_of_mem_eraseIdx hr)); refine (since_any HH.out.ok r1 (hO.over hb4 (Nat.lt_of_lt_of_le hgz hb3.size))).mono ?_; rintro e w6 ⟨⟨xa, xc, rfl, hW⟩, hb6⟩))
      go_ret2
      exact LPost.yes HH.out.ok r1 r2 r3 hW hb6 HX (by rw [HS.out]; exact Sim.refl _)
    · have hx := reE_none (st := st) hck.1 hck.2 hpl
      have HX : Hid (reE st pe tx = 11) := hx
      have HS : Hid (reS st pe tx = st) := reS_nz (by rw [hx]; decide)
      have g5 : st.rls.length ≤ plC st.rls pe tx := by omega
      clear hx hck hc0 hpl
      generalize plC st.rls pe tx = k at *
      go_enter Tryz.func29, Tryz.ntmps29
      go_wp2_with (first
        | (go_at_call 50; refine (HCK.out _).mono ?_; rintro e w1 ⟨rfl, hb1⟩; have k7 := (hb1.cell (p := ⟨g, 7, none⟩) hgz).trans c7)
        | (go_at_call 51; refine (HPL.out _ hb1).mono ?_; rintro e w3 ⟨rfl, hb3⟩; have k73 := (hb3.cell (p := ⟨g, 7, none⟩) hgz).trans c7))
      go_ret2
      exact LPost.no HH.out hb3 HX HS
theorem reset_cl {w4 : World} {g : Nat} {v : Value} {st : Gs} {F : Nat → Prop} {lo : Option Addr} {n lc : Nat} (h : LGate (w4.setCell ⟨g, 6, none⟩ v) g st F) (c7 : w4.cell? ⟨g, 7, none⟩ = some (.slice lo n lc)) : ClIn (w4.setCell ⟨g, 6, none⟩ v) lo st.rls ∧ (w4.setCell ⟨g, 6, none⟩ v).cell? ⟨g, 7, none⟩ = some (.slice lo n lc) ∧ (w4.setCell ⟨g, 6, none⟩ v).frozen? ⟨g, 7, none⟩ = false ∧ g < (w4.setCell ⟨g, 6, none⟩ v).heap.size := by
  obtain ⟨ao5, cap5, lo5, lc5, hread5, c75, hcl5, f65, f75⟩ := h.read
  have k7 : (w4.setCell ⟨g, 6, none⟩ v).cell? ⟨g, 7, none⟩ = some (.slice lo n lc) := (World.cell?_setCell_other _ _ _ _ (by simp)).trans c7
  have e := c75.symm.trans k7
  simp only [Option.some.injEq, Value.slice.injEq] at e
  obtain ⟨rfl, rfl, rfl⟩ := e
  exact ⟨hcl5, k7, f75, h.lt g h.own⟩
set_option maxHeartbeats 1600000 in
theorem landReset_any (g : Nat) (st : Gs) (F : Nat → Prop) (pe : Int) (w : World) (h : LGate w g st F) :
    Calls Tryz.prog 31 #[.pointer (some ⟨g, 0, none⟩), .int .i64 pe] w fun e w' => XPostW LGate F w g st (rsE pe) (rsS st pe) e w' := by
  have HH : Hid (LGate w g st F) := h
  obtain ⟨ao, cap, lo, lc, hread, c7, hcl, f6, f7⟩ := h.read
  have HG : Hid (GRead w g st.c ao cap st.rts) := hread
  have HC : Hid (ClIn w lo st.rls) := hcl
  have hgz := hread.lt
  have h24 := h.ok.l24
  have r24 := h.ok.r24
  have c6 := hread.rv
  clear h hread hcl
  cases hp : peOK pe
  · have hx : rsE pe = 6 := by unfold rsE; rw [hp]; rfl
    have HX : Hid (rsE pe = 6) := hx
    have HS : Hid (rsS st pe = st) := by show _ = _; unfold rsS; rw [hp]; rfl
    have HQ : Hid (peOK pe = false) := hp
    clear hx hp
    go_enter Tryz.func31, Tryz.ntmps31
    go_wp2_with (go_at_call 58; refine (isPeer_any _ _).mono ?_; rintro e w' ⟨rfl, rfl⟩; rw [HQ.out])
    go_ret2
    exact LPost.no HH.out (Below.refl _ _) HX HS
  · have HX : Hid (rsE pe = 0) := by show _ = _; unfold rsE; rw [hp]; rfl
    have HS : Hid (rsS st pe = ⟨st.c, st.rts.filter (fun r => !decide (r.pe = pe)), st.rls.filter (fun r => !decide (r.pe = pe))⟩) := by show _ = _; unfold rsS; rw [hp]; rfl
    have HOK : Hid (GsOK (rsS st pe)) := HH.out.ok.rs pe
    have HQ : Hid (peOK pe = true) := hp
    have HO1 : Hid (GsOK ⟨st.c, st.rts.filter (fun r => !decide (r.pe = pe)), st.rls⟩) := by
      have h0 := HOK.out
      rw [HS.out] at h0
      exact ⟨h0.c, h0.r24, HH.out.ok.l24, h0.rt, HH.out.ok.rl, h0.rtOnce, HH.out.ok.rlOnce⟩
    have HR1 : Hid (∀ w', Below w.heap.size w w' → Calls Tryz.prog 59 #[.slice ao st.rts.length cap, .int .i64 pe] w' fun e w'' => (∃ v, e = .returned v ∧ LRt w'' w'.heap.size v (st.rts.filter fun r => !decide (r.pe = pe))) ∧ Below w'.heap.size w' w'') := fun w' hb' => routesOfOthers_any st.rts ao cap pe w' (HG.out.rin.below hb') r24
    have HO2 : Hid (GsOK ⟨st.c, st.rts.filter (fun r => !decide (r.pe = pe)), st.rls.filter (fun r => !decide (r.pe = pe))⟩) := by have := HOK.out; rw [HS.out] at this; exact this
    clear hp
    go_enter Tryz.func31, Tryz.ntmps31
    go_wp2_with (first
      | (go_at_call 58; refine (isPeer_any _ _).mono ?_; rintro e w' ⟨rfl, rfl⟩; rw [HQ.out])
      | (go_at_call 38; refine (tabled_any HH.out (Below.refl _ _)).mono ?_; rintro e w2 ⟨⟨oo, oc, rfl, hO⟩, _, hbw2⟩; have x6 := (hbw2.cell (p := ⟨g, 6, none⟩) hgz).trans c6)
      | (go_at_call 59; refine (HR1.out _ hbw2).mono ?_; rintro e w4 ⟨⟨v, rfl, hrow⟩, hb24⟩; obtain ⟨vo, vc, rfl⟩ := ownsRow_shape hrow; have hb4 : Below w.heap.size w w4 := hbw2.trans (hb24.mono hbw2.size); have y6 := (hb4.cell (p := ⟨g, 6, none⟩) hgz).trans c6; have yf := (hb4.frozen (p := ⟨g, 6, none⟩) hgz).trans f6; have y7 := (hb4.cell (p := ⟨g, 7, none⟩) hgz).trans c7; have yf7 := (hb4.frozen (p := ⟨g, 7, none⟩) hgz).trans f7)
      | (go_at_call 60; obtain ⟨F', r1, r2, r3⟩ := HH.out.setR' hb4 (ownsRow_base hrow hbw2.size) HO1.out; obtain ⟨hcl5, k75, kf75, kz5⟩ := reset_cl r1 y7; have hO5 := hO.over (g := g) (j := 6) (u := .slice vo (st.rts.filter fun r => !decide (r.pe = pe)).length vc) hb24 hgz; refine (claimsOfOthers_any st.rls lo lc pe _ hcl5 h24).mono ?_; rintro e w6 ⟨⟨v6, rfl, hrow6⟩, hb6⟩; obtain ⟨vo6, vc6, rfl⟩ := ownsRow_shape hrow6; have z7 := (hb6.cell (p := ⟨g, 7, none⟩) kz5).trans k75; have zf := (hb6.frozen (p := ⟨g, 7, none⟩) kz5).trans kf75; have R1 : Hid (LGate (w4.setCell ⟨g, 6, none⟩ (.slice vo (st.rts.filter fun r => !decide (r.pe = pe)).length vc)) g ⟨st.c, st.rts.filter (fun r => !decide (r.pe = pe)), st.rls⟩ F') := r1; clear r1 hcl5 k75 kf75 kz5)
      | (go_at_call 44; obtain ⟨F2, s1, s2, s3⟩ := R1.out.setC hb6 hrow6 HO2.out (HH.out.srt.filter _) (fun r hr => HH.out.sz r (List.mem_filter.1 hr).1); refine (since_any HH.out.ok s1 (hO5.over hb6 hgz)).mono ?_; rintro e w8 ⟨⟨xa, xc, rfl, hW⟩, hb8⟩))
    go_ret2
    refine LPost.yes HH.out.ok s1 ?_ (r3.trans s3 r2) hW hb8 HX (by rw [HS.out]; exact Sim.refl _)
    intro b hb
    rcases s2 b hb with hf | hf
    · exact r2 b hf
    · have := r3.size
      exact .inr (by omega)
end Go.Proofs.YtgkiknfpcbcnnaaGreat
