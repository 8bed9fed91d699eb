import Derived.Test.YtdepfhkhkocehabLbe
namespace Go.Proofs.Ytdepfhkhkocehab
open Go.RowKit
set_option maxRecDepth 20000

/-- The rows of a gate that has some. -/
theorem LGate.rowC {w : World} {g : Nat} {st : Gs} {F : Nat → Prop} (h : LGate w g st F) (hl : 0 < st.rls.length) : ∃ rk lc, w.cell? ⟨g, 7, none⟩ = some (.slice (some ⟨rk, 0, none⟩) st.rls.length lc) ∧ rk < w.heap.size ∧ (∀ j, w.frozen? ⟨rk, j, none⟩ = false) ∧ (∀ k (_ : k < st.rls.length), ∃ u, w.cell? ⟨rk, k * 3 + 2, none⟩ = some u) ∧
    ∀ {w3 : World} (k : Nat) (hk : k < st.rls.length) (ac : Int), Below w.heap.size w w3 → GsOK { st with rls := st.rls.set k ⟨st.rls[k].tx, st.rls[k].pe, ac⟩ } → LGate (w3.setCell ⟨rk, k * 3 + 2, none⟩ (.int .i64 ac)) g { st with rls := st.rls.set k ⟨st.rls[k].tx, st.rls[k].pe, ac⟩ } F ∧ Off F w (w3.setCell ⟨rk, k * 3 + 2, none⟩ (.int .i64 ac)) := by
  obtain ⟨rv, lv, h1, h2, h3, h4, h5, h6⟩ := h.ex
  have h3' := h3
  rcases h3.2 with ⟨_, h0⟩ | ⟨rk, lc, cur, rfl, _, hh, _, _, hcs, htk⟩
  · omega
  · have hF := h5 rk rfl
    have hin := ClIn.of h3
    refine ⟨rk, lc, cell_of_row w g 7 _ _ _ h1, lt_of_block hh, fun j => frozen_of_row w rk j cur _ hh, fun k hk => ?_, ?_⟩
    · obtain ⟨b, off, e, _, _, _, c2⟩ := hin k hk
      simp only [Option.some.injEq, Addr.mk.injEq, and_true] at e
      obtain ⟨rfl, rfl⟩ := e
      rw [Nat.zero_add] at c2
      exact ⟨_, c2⟩
    · intro w3 k hk ac hb hok
      have hsz : (w3.setCell ⟨rk, k * 3 + 2, none⟩ (.int .i64 ac)).heap.size = w3.heap.size := by simp only [World.setCell, Array.size_modify]
      have oth : ∀ b, b ≠ rk → (w3.setCell ⟨rk, k * 3 + 2, none⟩ (.int .i64 ac)).heap[b]? = w3.heap[b]? := fun b hne => Below.heap_setCell _ _ _ _ hne
      have old : ∀ b, F b → b ≠ rk → (w3.setCell ⟨rk, k * 3 + 2, none⟩ (.int .i64 ac)).heap[b]? = w.heap[b]? := fun b hf hne => (oth b hne).trans (hb.block b (h.lt b hf))
      refine ⟨⟨⟨rv, _, (old g h.own (fun e => hF.2 e.symm)).trans h1, ownsRow_same h2 (fun b hbk => old b (h4 b hbk).1 (fun e => by subst e; exact h6 b hbk rfl)), ?_, h4, h5, h6⟩, h.own, hok, ?_, ?_, ?_⟩, (Off.of hb).setCell (.inl hF.1) _⟩
      · show World.ownsRow _ 0 _ 3 _ (st.rls.set k ⟨st.rls[k].tx, st.rls[k].pe, ac⟩).length (clCs (st.rls.set k ⟨st.rls[k].tx, st.rls[k].pe, ac⟩))
        rw [List.length_set, clCs_setAc]
        exact ownsRow_store (ownsRow_same h3' (fun b hbk => hb.block b (World.ownsRow.lt h3' b hbk).2)) _ _
      · exact Srt.set h.srt hk rfl
      · intro r hr
        rcases List.mem_or_eq_of_mem_set hr with hr | rfl
        · exact h.sz r hr
        · exact h.sz st.rls[k] (List.getElem_mem hk)
      · intro b hf
        rw [hsz]
        have := h.lt b hf
        have := hb.size
        omega
theorem LGate.rowR {w : World} {g : Nat} {st : Gs} {F : Nat → Prop} (h : LGate w g st F) (hl : 0 < st.rts.length) : ∃ rk lc, w.cell? ⟨g, 6, none⟩ = some (.slice (some ⟨rk, 0, none⟩) st.rts.length lc) ∧ rk < w.heap.size ∧ (∀ j, w.frozen? ⟨rk, j, none⟩ = false) ∧ (∀ k (_ : k < st.rts.length), ∃ u, w.cell? ⟨rk, k * 4 + 3, none⟩ = some u) ∧
    ∀ {w3 : World} (k : Nat) (hk : k < st.rts.length) (pa : Int), Below w.heap.size w w3 → GsOK { st with rts := st.rts.set k ⟨st.rts[k].pe, st.rts[k].bt, st.rts[k].ln, pa⟩ } → LGate (w3.setCell ⟨rk, k * 4 + 3, none⟩ (.int .i64 pa)) g { st with rts := st.rts.set k ⟨st.rts[k].pe, st.rts[k].bt, st.rts[k].ln, pa⟩ } F ∧ Off F w (w3.setCell ⟨rk, k * 4 + 3, none⟩ (.int .i64 pa)) := by
  obtain ⟨rv, lv, h1, h2, h3, h4, h5, h6⟩ := h.ex
  have h2' := h2
  rcases h2.2 with ⟨_, h0⟩ | ⟨rk, lc, cur, rfl, _, hh, _, _, hcs, htk⟩
  · omega
  · have hF := h4 rk rfl
    have hin := rtIn_of h2
    refine ⟨rk, lc, cell_of_row w g 6 _ _ _ h1, lt_of_block hh, fun j => frozen_of_row w rk j cur _ hh, fun k hk => ?_, ?_⟩
    · obtain ⟨b, off, e, _, _, _, _, c3⟩ := hin k hk
      simp only [Option.some.injEq, Addr.mk.injEq, and_true] at e
      obtain ⟨rfl, rfl⟩ := e
      rw [Nat.zero_add] at c3
      exact ⟨_, c3⟩
    · intro w3 k hk pa hb hok
      have hsz : (w3.setCell ⟨rk, k * 4 + 3, none⟩ (.int .i64 pa)).heap.size = w3.heap.size := by simp only [World.setCell, Array.size_modify]
      have oth : ∀ b, b ≠ rk → (w3.setCell ⟨rk, k * 4 + 3, none⟩ (.int .i64 pa)).heap[b]? = w3.heap[b]? := fun b hne => Below.heap_setCell _ _ _ _ hne
      have old : ∀ b, F b → b ≠ rk → (w3.setCell ⟨rk, k * 4 + 3, none⟩ (.int .i64 pa)).heap[b]? = w.heap[b]? := fun b hf hne => (oth b hne).trans (hb.block b (h.lt b hf))
      refine ⟨⟨⟨_, lv, (old g h.own (fun e => hF.2 e.symm)).trans h1, ?_, ownsRow_same h3 (fun b hbk => old b (h5 b hbk).1 (fun e => by subst e; exact h6 b rfl hbk)), h4, h5, h6⟩, h.own, hok, h.srt, h.sz, ?_⟩, (Off.of hb).setCell (.inl hF.1) _⟩
      · show World.ownsRow _ 0 _ 4 _ (st.rts.set k ⟨st.rts[k].pe, st.rts[k].bt, st.rts[k].ln, pa⟩).length (rtCs (st.rts.set k ⟨st.rts[k].pe, st.rts[k].bt, st.rts[k].ln, pa⟩))
        rw [List.length_set, rtCs_setPa]
        exact ownsRow_store (ownsRow_same h2' (fun b hbk => hb.block b (World.ownsRow.lt h2' b hbk).2)) _ _
      · intro b hf
        rw [hsz]
        have := h.lt b hf
        have := hb.size
        omega

set_option maxHeartbeats 1600000 in
theorem landRemove_any (g : Nat) (st : Gs) (F : Nat → Prop) (pe : Int) (tx : ByteArray) (w : World) (h : LGate w g st F) (hs : tx.size ≤ 140737488351232) :
    Calls Try.prog 43 #[.pointer (some ⟨g, 0, none⟩), .int .i64 pe, .string tx] w fun e w' => XPost LGate F w g (reE st pe tx) (reS st pe tx) e w' := by
  have HH : Hid (LGate w g st F) := h
  obtain ⟨ao, cap, lo, lc, hread, c7, hcl, f6, f7⟩ := h.read
  have HC : Hid (ClIn w lo st.rls) := hcl
  have hgz := hread.lt
  have h24 := h.ok.l24
  clear h hread hcl f6
  have HCK : Hid (∀ w, Calls Try.prog 67 #[.int .i64 pe, .string tx] w fun e w' => e = .returned (.int .i64 (ckC pe tx)) ∧ Below w.heap.size w w') := fun w => checkClaim_any pe tx w hs
  cases hck : (peOK pe && (decS tx).isSome)
  · have hx : reE st pe tx = ckC pe tx ∧ ckC pe tx ≠ 0 := by
      unfold reE ckC
      cases hp : peOK pe
      · simp
      · cases hq : (decS tx).isSome
        · simp
        · rw [hp, hq] at hck; simp at hck
    have HX : Hid (reE st pe tx = ckC pe tx) := hx.1
    have HS : Hid (reS st pe tx = st) := reS_nz (by rw [hx.1]; exact hx.2)
    have q1 : (ckC pe tx != 0) = true := by simpa using hx.2
    clear hx hck
    go_enter Try.func43, Try.ntmps43
    go_wp2_with (go_at_call 67; refine (HCK.out _).mono ?_; rintro e w1 ⟨rfl, hb1⟩)
    go_ret2
    exact LPost.no HH.out hb1 HX HS
  · rw [Bool.and_eq_true] at hck
    have hc0 : ckC pe tx = 0 := by unfold ckC; rw [hck.1, hck.2]; rfl
    rw [hc0] at HCK
    have HPL : Hid (∀ w', Below w.heap.size w w' → Calls Try.prog 68 #[.slice lo st.rls.length lc, .int .i64 pe, .string tx] w' fun e w'' => e = .returned (.int .i64 (plC st.rls pe tx : Nat)) ∧ Below w.heap.size w w'') := fun w' hb' => (placeOfClaim_any st.rls lo lc pe tx w' (HC.out.below hb') h24).mono fun e w'' h'' => ⟨h''.1, hb'.trans (h''.2.mono hb'.size)⟩
    have HRW : Hid (∀ (k : Nat) w', Below w.heap.size w w' → Calls Try.prog 71 #[.slice lo st.rls.length lc, .int .i64 (k : Int)] w' fun e w'' => (∃ v, e = .returned v ∧ LCl w'' w'.heap.size v (st.rls.eraseIdx k)) ∧ Below w'.heap.size w' w'') := fun k w' hb' => claimsWithout_any st.rls lo lc k w' (HC.out.below hb') h24
    by_cases hpl : plC st.rls pe tx < st.rls.length
    · have hx := reE_at HH.out.ok hck.1 hck.2 hpl
      have HX : Hid (reE st pe tx = 0) := hx.1
      have HS : Hid (reS st pe tx = ⟨st.c, st.rts, st.rls.eraseIdx (plC st.rls pe tx)⟩) := hx.2
      have HOK : Hid (GsOK (reS st pe tx)) := HH.out.ok.re pe tx
      clear hx hck hc0
      generalize plC st.rls pe tx = k at *
      go_enter Try.func43, Try.ntmps43
      go_wp2_with (first
        | (go_at_call 67; refine (HCK.out _).mono ?_; rintro e w1 ⟨rfl, hb1⟩; have k7 := (hb1.cell (p := ⟨g, 7, none⟩) hgz).trans c7)
        | (go_at_call 68; refine (HPL.out _ hb1).mono ?_; rintro e w3 ⟨rfl, hb3⟩; have k73 := (hb3.cell (p := ⟨g, 7, none⟩) hgz).trans c7)
        | (go_at_call 71; refine (HRW.out k _ hb3).mono ?_; rintro e w4 ⟨⟨v, rfl, hrow⟩, hb4⟩; obtain ⟨vo, vc, rfl⟩ := ownsRow_shape hrow; have hbw4 : Below w.heap.size w w4 := hb3.trans (hb4.mono hb3.size); have y7 := (hbw4.cell (p := ⟨g, 7, none⟩) hgz).trans c7; have yf := (hbw4.frozen (p := ⟨g, 7, none⟩) hgz).trans f7))
      go_ret2
      obtain ⟨F', r1, r2, r3⟩ := HH.out.setC hbw4 (ownsRow_base hrow hb3.size) (by have := HOK.out; rw [HS.out] at this; exact this) (HH.out.srt.erase k) (fun r hr => HH.out.sz r (List.mem_of_mem_eraseIdx hr))
      exact ⟨none, 0, 0, F', _, by rw [HX.out]; rfl, fun _ => rfl, by rw [HS.out]; exact Sim.refl _, r1, r2, r3⟩
    · have hx := reE_none (st := st) hck.1 hck.2 hpl
      have HX : Hid (reE st pe tx = 11) := hx
      have HS : Hid (reS st pe tx = st) := reS_nz (by rw [hx]; decide)
      have g5 : st.rls.length ≤ plC st.rls pe tx := by omega
      clear hx hck hc0 hpl
      generalize plC st.rls pe tx = k at *
      go_enter Try.func43, Try.ntmps43
      go_wp2_with (first
        | (go_at_call 67; refine (HCK.out _).mono ?_; rintro e w1 ⟨rfl, hb1⟩; have k7 := (hb1.cell (p := ⟨g, 7, none⟩) hgz).trans c7)
        | (go_at_call 68; refine (HPL.out _ hb1).mono ?_; rintro e w3 ⟨rfl, hb3⟩; have k73 := (hb3.cell (p := ⟨g, 7, none⟩) hgz).trans c7))
      go_ret2
      exact LPost.no HH.out hb3 HX HS

theorem reset_cl {w4 : World} {g : Nat} {v : Value} {st : Gs} {F : Nat → Prop} {lo : Option Addr} {n lc : Nat} (h : LGate (w4.setCell ⟨g, 6, none⟩ v) g st F) (c7 : w4.cell? ⟨g, 7, none⟩ = some (.slice lo n lc)) : ClIn (w4.setCell ⟨g, 6, none⟩ v) lo st.rls ∧ (w4.setCell ⟨g, 6, none⟩ v).cell? ⟨g, 7, none⟩ = some (.slice lo n lc) ∧ (w4.setCell ⟨g, 6, none⟩ v).frozen? ⟨g, 7, none⟩ = false ∧ g < (w4.setCell ⟨g, 6, none⟩ v).heap.size := by
  obtain ⟨ao5, cap5, lo5, lc5, hread5, c75, hcl5, f65, f75⟩ := h.read
  have k7 : (w4.setCell ⟨g, 6, none⟩ v).cell? ⟨g, 7, none⟩ = some (.slice lo n lc) := (World.cell?_setCell_other _ _ _ _ (by simp)).trans c7
  have e := c75.symm.trans k7
  simp only [Option.some.injEq, Value.slice.injEq] at e
  obtain ⟨rfl, rfl, rfl⟩ := e
  exact ⟨hcl5, k7, f75, h.lt g h.own⟩

set_option maxHeartbeats 1600000 in
theorem landReset_any (g : Nat) (st : Gs) (F : Nat → Prop) (pe : Int) (w : World) (h : LGate w g st F) :
    Calls Try.prog 44 #[.pointer (some ⟨g, 0, none⟩), .int .i64 pe] w fun e w' => XPost LGate F w g (rsE pe) (rsS st pe) e w' := by
  have HH : Hid (LGate w g st F) := h
  obtain ⟨ao, cap, lo, lc, hread, c7, hcl, f6, f7⟩ := h.read
  have HG : Hid (GRead w g st.c ao cap st.rts) := hread
  have HC : Hid (ClIn w lo st.rls) := hcl
  have hgz := hread.lt
  have h24 := h.ok.l24
  have r24 := h.ok.r24
  have c6 := hread.rv
  clear h hread hcl
  cases hp : peOK pe
  · have hx : rsE pe = 6 := by unfold rsE; rw [hp]; rfl
    have HX : Hid (rsE pe = 6) := hx
    have HS : Hid (rsS st pe = st) := by show _ = _; unfold rsS; rw [hp]; rfl
    have HQ : Hid (peOK pe = false) := hp
    clear hx hp
    go_enter Try.func44, Try.ntmps44
    go_wp2_with (go_at_call 72; refine (isPeer_any _ _).mono ?_; rintro e w' ⟨rfl, rfl⟩; rw [HQ.out])
    go_ret2
    exact LPost.no HH.out (Below.refl _ _) HX HS
  · have HX : Hid (rsE pe = 0) := by show _ = _; unfold rsE; rw [hp]; rfl
    have HS : Hid (rsS st pe = ⟨st.c, st.rts.filter (fun r => !decide (r.pe = pe)), st.rls.filter (fun r => !decide (r.pe = pe))⟩) := by show _ = _; unfold rsS; rw [hp]; rfl
    have HOK : Hid (GsOK (rsS st pe)) := HH.out.ok.rs pe
    have HQ : Hid (peOK pe = true) := hp
    have HO1 : Hid (GsOK ⟨st.c, st.rts.filter (fun r => !decide (r.pe = pe)), st.rls⟩) := by
      have h0 := HOK.out
      rw [HS.out] at h0
      exact ⟨h0.c, h0.r24, HH.out.ok.l24, h0.rt, HH.out.ok.rl, h0.rtOnce, HH.out.ok.rlOnce⟩
    have HR1 : Hid (Calls Try.prog 73 #[.slice ao st.rts.length cap, .int .i64 pe] w fun e w'' => (∃ v, e = .returned v ∧ LRt w'' w.heap.size v (st.rts.filter fun r => !decide (r.pe = pe))) ∧ Below w.heap.size w w'') := routesOfOthers_any st.rts ao cap pe w HG.out.rin r24
    clear hp
    go_enter Try.func44, Try.ntmps44
    go_wp2_with (first
      | (go_at_call 72; refine (isPeer_any _ _).mono ?_; rintro e w' ⟨rfl, rfl⟩; rw [HQ.out])
      | (go_at_call 73; refine HR1.out.mono ?_; rintro e w4 ⟨⟨v, rfl, hrow⟩, hb4⟩; obtain ⟨vo, vc, rfl⟩ := ownsRow_shape hrow; have y6 := (hb4.cell (p := ⟨g, 6, none⟩) hgz).trans c6; have yf := (hb4.frozen (p := ⟨g, 6, none⟩) hgz).trans f6; have y7 := (hb4.cell (p := ⟨g, 7, none⟩) hgz).trans c7; have yf7 := (hb4.frozen (p := ⟨g, 7, none⟩) hgz).trans f7)
      | (go_at_call 74; obtain ⟨F', r1, r2, r3⟩ := HH.out.setR' hb4 hrow HO1.out; obtain ⟨hcl5, k75, kf75, kz5⟩ := reset_cl r1 y7; refine (claimsOfOthers_any st.rls lo lc pe _ hcl5 h24).mono ?_; rintro e w6 ⟨⟨v6, rfl, hrow6⟩, hb6⟩; obtain ⟨vo6, vc6, rfl⟩ := ownsRow_shape hrow6; have z7 := (hb6.cell (p := ⟨g, 7, none⟩) kz5).trans k75; have zf := (hb6.frozen (p := ⟨g, 7, none⟩) kz5).trans kf75; have R1 : Hid (LGate (w4.setCell ⟨g, 6, none⟩ (.slice vo (st.rts.filter fun r => !decide (r.pe = pe)).length vc)) g ⟨st.c, st.rts.filter (fun r => !decide (r.pe = pe)), st.rls⟩ F') := r1; clear r1 hcl5 k75 kf75 kz5))
    go_ret2
    obtain ⟨F2, s1, s2, s3⟩ := R1.out.setC hb6 hrow6 (by have := HOK.out; rw [HS.out] at this; exact this) (HH.out.srt.filter _) (fun r hr => HH.out.sz r (List.mem_filter.1 hr).1)
    refine ⟨none, 0, 0, F2, _, by rw [HX.out]; rfl, fun _ => rfl, by rw [HS.out]; exact Sim.refl _, s1, ?_, r3.trans s3 r2⟩
    intro b hb
    rcases s2 b hb with hf | hf
    · exact r2 b hf
    · have := r3.size
      exact .inr (by omega)
end Go.Proofs.Ytdepfhkhkocehab

namespace Go.Proofs.Ytdepfhkhkocehab
open Go.RowKit
set_option maxRecDepth 20000

theorem plR_at {l : List Rt} {pe bt ln : Int} (h : plR l pe bt ln < l.length) : (l[plR l pe bt ln]'h).pe = pe ∧ (l[plR l pe bt ln]'h).bt = bt ∧ (l[plR l pe bt ln]'h).ln = ln := by
  have := List.findIdx_getElem (p := fun r => !rtNe pe bt ln r) (xs := l) (w := h)
  have e : ¬ rtNe pe bt ln (l[plR l pe bt ln]'h) = true := by
    intro hh
    have t2 : (!rtNe pe bt ln (l[plR l pe bt ln]'h)) = true := this
    rw [hh] at t2
    simp at t2
  rw [rtNe_iff, Classical.not_not] at e
  exact e
theorem adE_bad {st : Gs} {pe : Int} {tx : ByteArray} {ac : Int} (h1 : peOK pe = true) (h2 : (decS tx).isSome = true) (h3 : upTo ac 255 = false) : adE st pe tx ac = 9 := by
  unfold adE
  have : paOK ac = false := h3
  rw [h1, h2, this]; rfl
theorem anE_bad {st : Gs} {pe bt ln pa : Int} (h1 : peOK pe = true) (h2 : prefOK bt ln = true) (h3 : upTo pa 255 = false) : anE st pe bt ln pa = 8 := by
  unfold anE
  have : paOK pa = false := h3
  rw [h1, h2, this]; rfl

set_option maxHeartbeats 1600000 in
theorem landAdd_any (g : Nat) (st : Gs) (F : Nat → Prop) (pe : Int) (tx : ByteArray) (ac : Int) (w : World) (h : LGate w g st F) (hs : tx.size ≤ 140737488351232) :
    Calls Try.prog 38 #[.pointer (some ⟨g, 0, none⟩), .int .i64 pe, .string tx, .int .i64 ac] w fun e w' => XPost LGate F w g (adE st pe tx ac) (adS st pe tx ac) e w' := by
  have HH : Hid (LGate w g st F) := h
  obtain ⟨ao, cap, lo, lc, hread, c7, hcl, f6, f7⟩ := h.read
  have HC : Hid (ClIn w lo st.rls) := hcl
  have hgz := hread.lt
  have h24 := h.ok.l24
  have HSZ : Hid (tx.size ≤ 140737488351232) := hs
  clear h hread hcl f6
  have HCK : Hid (∀ w, Calls Try.prog 67 #[.int .i64 pe, .string tx] w fun e w' => e = .returned (.int .i64 (ckC pe tx)) ∧ Below w.heap.size w w') := fun w => checkClaim_any pe tx w hs
  clear hs
  cases hck : (peOK pe && (decS tx).isSome)
  · have hx : adE st pe tx ac = ckC pe tx ∧ ckC pe tx ≠ 0 := by
      unfold adE ckC
      cases hp : peOK pe
      · simp
      · cases hq : (decS tx).isSome
        · simp
        · rw [hp, hq] at hck; simp at hck
    have HX : Hid (adE st pe tx ac = ckC pe tx) := hx.1
    have HS : Hid (adS st pe tx ac = st) := adS_nz (by rw [hx.1]; exact hx.2)
    have q1 : (ckC pe tx != 0) = true := by simpa using hx.2
    clear hx hck
    go_enter Try.func38, Try.ntmps38
    go_wp2_with (go_at_call 67; refine (HCK.out _).mono ?_; rintro e w1 ⟨rfl, hb1⟩)
    go_ret2
    exact LPost.no HH.out hb1 HX HS
  · rw [Bool.and_eq_true] at hck
    have hc0 : ckC pe tx = 0 := by unfold ckC; rw [hck.1, hck.2]; rfl
    rw [hc0] at HCK
    clear hc0
    cases hac : upTo ac 255
    · have hx := adE_bad (st := st) hck.1 hck.2 hac
      have HX : Hid (adE st pe tx ac = 9) := hx
      have HS : Hid (adS st pe tx ac = st) := adS_nz (by rw [hx]; decide)
      have HQ : Hid (upTo ac 255 = false) := hac
      clear hx hck hac
      go_enter Try.func38, Try.ntmps38
      go_wp2_with (first
        | (go_at_call 67; refine (HCK.out _).mono ?_; rintro e w1 ⟨rfl, hb1⟩)
        | (go_at_call 63; refine (isUpTo_any _ _ _).mono ?_; rintro e w' ⟨rfl, rfl⟩; rw [HQ.out]))
      go_ret2
      exact LPost.no HH.out hb1 HX HS
    · have HQ : Hid (upTo ac 255 = true) := hac
      have HPL : Hid (∀ w', Below w.heap.size w w' → Calls Try.prog 68 #[.slice lo st.rls.length lc, .int .i64 pe, .string tx] w' fun e w'' => e = .returned (.int .i64 (plC st.rls pe tx : Nat)) ∧ Below w.heap.size w w'') := fun w' hb' => (placeOfClaim_any st.rls lo lc pe tx w' (HC.out.below hb') h24).mono fun e w'' h'' => ⟨h''.1, hb'.trans (h''.2.mono hb'.size)⟩
      by_cases hpl : plC st.rls pe tx < st.rls.length
      · have hx := adE_at HH.out.ok hck.1 hck.2 hac hpl
        have hat := plC_at hpl
        have HX : Hid (adE st pe tx ac = 0) := hx.1
        have HS : Hid (Sim ⟨st.c, st.rts, st.rls.set (plC st.rls pe tx) ⟨(st.rls[plC st.rls pe tx]'hpl).tx, (st.rls[plC st.rls pe tx]'hpl).pe, ac⟩⟩ (adS st pe tx ac)) := by
          rw [hat.1, hat.2]; exact hx.2
        have HOK : Hid (GsOK (adS st pe tx ac)) := HH.out.ok.ad pe tx ac
        obtain ⟨rk, lc', d7, hrz, hfz, hcz, hset⟩ := HH.out.rowC (by omega)
        have e := c7.symm.trans d7
        simp only [Option.some.injEq, Value.slice.injEq, true_and] at e
        obtain ⟨rfl, rfl⟩ := e
        obtain ⟨u, hu⟩ := hcz _ hpl
        have hfk := hfz (plC st.rls pe tx * 3 + 2)
        have HST : Hid (∀ w3, Below w.heap.size w w3 → LGate (w3.setCell ⟨rk, plC st.rls pe tx * 3 + 2, none⟩ (.int .i64 ac)) g ⟨st.c, st.rts, st.rls.set (plC st.rls pe tx) ⟨(st.rls[plC st.rls pe tx]'hpl).tx, (st.rls[plC st.rls pe tx]'hpl).pe, ac⟩⟩ F ∧ Off F w (w3.setCell ⟨rk, plC st.rls pe tx * 3 + 2, none⟩ (.int .i64 ac))) := fun w3 hb3 => hset _ hpl ac hb3 (GsOK.sim HS.out HOK.out)
        clear hx hck hac hat d7 hfz hcz hset HOK
        generalize hS' : st.rls.set (plC st.rls pe tx) ⟨(st.rls[plC st.rls pe tx]'hpl).tx, (st.rls[plC st.rls pe tx]'hpl).pe, ac⟩ = S' at HS HST
        clear hS'
        generalize plC st.rls pe tx = k at *
        go_enter Try.func38, Try.ntmps38
        go_wp2_with (first
          | (go_at_call 67; refine (HCK.out _).mono ?_; rintro e w1 ⟨rfl, hb1⟩; have k7 := (hb1.cell (p := ⟨g, 7, none⟩) hgz).trans c7)
          | (go_at_call 63; refine (isUpTo_any _ _ _).mono ?_; rintro e w' ⟨rfl, rfl⟩; rw [HQ.out])
          | (go_at_call 68; refine (HPL.out _ hb1).mono ?_; rintro e w3 ⟨rfl, hb3⟩; have k73 := (hb3.cell (p := ⟨g, 7, none⟩) hgz).trans c7; have ku := (hb3.cell (p := ⟨rk, k * 3 + 2, none⟩) hrz).trans hu; have kf := (hb3.frozen (p := ⟨rk, k * 3 + 2, none⟩) hrz).trans hfk))
        go_ret2
        exact ⟨none, 0, 0, F, _, by rw [HX.out]; rfl, fun _ => rfl, HS.out, (HST.out w3 hb3).1, fun b hf => .inl hf, (HST.out w3 hb3).2⟩
      · obtain ⟨hxe, hxs⟩ := adE_new (st := st) hck.1 hck.2 hac hpl
        by_cases hfull : 24 ≤ st.rls.length
        · have HX : Hid (adE st pe tx ac = 10) := by show _ = _; rw [hxe, if_pos hfull]
          have HS : Hid (adS st pe tx ac = st) := adS_nz (by rw [HX.out]; decide)
          have g5 : st.rls.length ≤ plC st.rls pe tx := by omega
          clear hxe hxs hck hac hpl
          generalize plC st.rls pe tx = k at *
          go_enter Try.func38, Try.ntmps38
          go_wp2_with (first
            | (go_at_call 67; refine (HCK.out _).mono ?_; rintro e w1 ⟨rfl, hb1⟩; have k7 := (hb1.cell (p := ⟨g, 7, none⟩) hgz).trans c7)
            | (go_at_call 63; refine (isUpTo_any _ _ _).mono ?_; rintro e w' ⟨rfl, rfl⟩; rw [HQ.out])
            | (go_at_call 68; refine (HPL.out _ hb1).mono ?_; rintro e w3 ⟨rfl, hb3⟩; have k73 := (hb3.cell (p := ⟨g, 7, none⟩) hgz).trans c7))
          go_ret2
          exact LPost.no HH.out hb3 HX HS
        · have HX : Hid (adE st pe tx ac = 0) := by show _ = _; rw [hxe, if_neg hfull]
          have HS : Hid (Sim ⟨st.c, st.rts, insR ⟨tx, pe, ac⟩ st.rls⟩ (adS st pe tx ac)) := hxs (by omega)
          have HOK : Hid (GsOK ⟨st.c, st.rts, insR ⟨tx, pe, ac⟩ st.rls⟩) := GsOK.sim HS.out (HH.out.ok.ad pe tx ac)
          have HSR : Hid (Srt (insR ⟨tx, pe, ac⟩ st.rls)) := HH.out.srt.ins (Tel.ins HH.out.ok hck.2 hpl)
          have HS2 : Hid (∀ r ∈ insR ⟨tx, pe, ac⟩ st.rls, r.tx.size ≤ 140737488351232) := fun r hr => by
            rcases List.mem_cons.1 ((insR_perm _ _).mem_iff.1 hr) with rfl | hr
            · exact HSZ.out
            · exact HH.out.sz r hr
          have HCW : Hid (∀ w', Below w.heap.size w w' → Calls Try.prog 69 #[.slice lo st.rls.length lc, .agg #[.int .i64 pe, .string tx, .int .i64 ac]] w' fun e w'' => (∃ v, e = .returned v ∧ LCl w'' w'.heap.size v (insR ⟨tx, pe, ac⟩ st.rls)) ∧ Below w'.heap.size w' w'') := fun w' hb' => claimsWith_any st.rls lo lc ⟨tx, pe, ac⟩ w' (HC.out.below hb') h24 (fun r hr => ⟨(HH.out.ok.rl r hr).2.1, HH.out.sz r hr⟩) hck.2 HSZ.out
          have g5 : st.rls.length ≤ plC st.rls pe tx := by omega
          have g6 : st.rls.length < 24 := by omega
          clear hxe hxs hck hac hpl hfull
          generalize plC st.rls pe tx = k at *
          go_enter Try.func38, Try.ntmps38
          go_wp2_with (first
            | (go_at_call 67; refine (HCK.out _).mono ?_; rintro e w1 ⟨rfl, hb1⟩; have k7 := (hb1.cell (p := ⟨g, 7, none⟩) hgz).trans c7)
            | (go_at_call 63; refine (isUpTo_any _ _ _).mono ?_; rintro e w' ⟨rfl, rfl⟩; rw [HQ.out])
            | (go_at_call 68; refine (HPL.out _ hb1).mono ?_; rintro e w3 ⟨rfl, hb3⟩; have k73 := (hb3.cell (p := ⟨g, 7, none⟩) hgz).trans c7)
            | (go_at_call 69; refine (HCW.out _ hb3).mono ?_; rintro e w4 ⟨⟨v, rfl, hrow⟩, hb4⟩; obtain ⟨vo, vc, rfl⟩ := ownsRow_shape hrow; have hbw4 : Below w.heap.size w w4 := hb3.trans (hb4.mono hb3.size); have y7 := (hbw4.cell (p := ⟨g, 7, none⟩) hgz).trans c7; have yf := (hbw4.frozen (p := ⟨g, 7, none⟩) hgz).trans f7))
          go_ret2
          obtain ⟨F', r1, r2, r3⟩ := HH.out.setC hbw4 (ownsRow_base hrow hb3.size) HOK.out HSR.out HS2.out
          exact ⟨none, 0, 0, F', _, by rw [HX.out]; rfl, fun _ => rfl, HS.out, r1, r2, r3⟩
end Go.Proofs.Ytdepfhkhkocehab
