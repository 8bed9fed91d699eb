import Derived.Test.YtgkiknfpcbcnnabGreatScb
namespace Go.Proofs.YtgkiknfpcbcnnabGreat
open Go.RowKit
set_option maxRecDepth 20000

/-- What the law's account has behind a route that is announced. -/
def roS (rts : List Rt) (pe bt ln pa : Int) : List Rt := if plR rts pe bt ln < rts.length then rts.set (plR rts pe bt ln) ⟨pe, bt, ln, pa⟩ else if 24 ≤ rts.length then rts else rts ++ [⟨pe, bt, ln, pa⟩]

set_option maxHeartbeats 3200000 in
theorem route_any (X : XGate) {lk : Bool} (HTD : Hid (ToldOK X lk)) {B : Nat} {w : World} {r x : Nat} {c : Cf} {hd : Hd} {gs : Nat → Option Obj} {rts : List Rt} {rls : List Rl} (h : RunI X B w r x c lk hd gs rts rls) (pe bt ln pa : Int) (h1 : peOK pe = true) (h2 : prefOK bt ln = true) (h3 : paOK pa = true) :
    Calls Tryz.prog 23 #[.pointer (some ⟨r, 0, none⟩), .int .i64 pe, .agg #[.int .i64 bt, .int .i64 ln], .int .i64 pa] w fun e w' => e = .returned (.tuple #[]) ∧ RunI X B w' r x c lk hd gs (roS rts pe bt ln pa) rls ∧ Below B w w' := by
  obtain ⟨i0, hi, hz0, hz1, hz2⟩ := info_parts infoSRt
  obtain ⟨tv, rv, lv, st, F, hj, hsim, htab⟩ := h.ex
  have HTT : Hid (lk = true → tv.T = tabS st) := fun hl => (htab hl).trans (hsim.tabS (X.ok hj.inv).tel).symm
  clear htab
  have HJ : Hid (RunJ X B w r x c lk hd gs tv rv lv rts rls st F) := hj
  have HSM : Hid (Sim st ⟨c, rts, rls⟩) := hsim
  have hok : GsOK ⟨c, rts, rls⟩ := GsOK.sim hsim.symm (X.ok hj.inv)
  have HOK : Hid (GsOK ⟨c, rts, rls⟩) := hok
  have h24 : rts.length ≤ 24 := hok.r24
  obtain ⟨ro, rc, lo, lc, rfl, hlv, c0, c7, c8, c9, c10, hfz, hrin, hcin⟩ := hj.read
  have HC : Hid (RtIn w ro rts) := hrin
  have hrz := hj.lt
  have hE : anE st pe bt ln pa = anE ⟨c, rts, rls⟩ pe bt ln pa := hsim.anE pe bt ln pa
  have HAN : Hid (∀ W, Below w.heap.size w W → Calls Tryz.prog 47 #[.pointer (some ⟨x, 0, none⟩), .int .i64 pe, .agg #[.int .i64 bt, .int .i64 ln], .int .i64 pa] W fun e w' => XPostN X.Inv F W x st (anE st pe bt ln pa) (anS st pe bt ln pa) e w') := fun W hW => by
    have b1 := peOK_bd h1
    have b3 := paOK_bd h3
    obtain ⟨p0, p1, p2, p3, _⟩ := prefOK_bd h2
    have hI : X.Inv W x st F := X.same HJ.out.inv hW.size (fun b hb => hW.block b (X.lt HJ.out.inv b hb))
    have := X.announceN pe bt ln pa hI ⟨by omega, by omega⟩ ⟨by omega, by omega⟩ ⟨by omega, by omega⟩ ⟨by omega, by omega⟩
    unfold ptrV at this
    exact this
  clear h hj hsim hrin hcin c8 c9 c10 hfz hlv
  have HST : Hid (∀ i (hi : i < rts.length), atP (plR rts pe bt ln) (i + 1) = if rtNe pe bt ln rts[i] then atP (plR rts pe bt ln) i else (i : Int)) := fun i hi => atP_step (rtNe pe bt ln) (rt_once HOK.out pe bt ln) i hi
  obtain ⟨W0, hW0⟩ : ∃ W0, W0 = w.alloc (.cells #[.int .i64 bt, .int .i64 ln] 67) := ⟨_, rfl⟩
  have HW0 : Hid (W0 = w.alloc (.cells #[.int .i64 bt, .int .i64 ln] 67)) := hW0
  have hb0 : Below w.heap.size w W0 := by rw [hW0]; exact below_alloc _ _
  have HP0 : Hid (PfVar W0 w.heap.size bt ln) := by show _ = _; rw [hW0]; exact heap_alloc_new w _
  clear hW0
  have hz0w := hb0.size
  have hpz := lt_of_block HP0.out
  go_enter Tryz.func23, Tryz.ntmps23
  go_wp2_with fail
  rw [← HW0.out]
  go_loopw [9, 10] (fun a y wr => ∃ i : Nat, y = .int .i64 i ∧ a = .int .i64 (atP (plR rts pe bt ln) i) ∧ i ≤ rts.length ∧ Below W0.heap.size W0 wr) (fun _ y _ => rts.length - (intOf y).toNat)
  case atStart => exact ⟨0, rfl, rfl, Nat.zero_le _, Below.refl _ _⟩
  case round =>
    obtain ⟨i, rfl, rfl, hil, hbel⟩ := hrel
    have hbw : Below w.heap.size w wr := hb0.trans (hbel.mono hz0w)
    have k7 := (hbw.cell (p := ⟨r, 7, none⟩) hrz).trans c7
    obtain ⟨p0, p1, _, _⟩ := (HP0.out.below hbel).get
    by_cases hlt : i < rts.length
    · obtain ⟨rk, ro', rfl, bz2, d0, d1, d2, d3⟩ := HC.out.below hbw i hlt
      have HS := HST.out i hlt
      generalize rts[i] = q at *
      obtain ⟨qpe, qbt, qln, qpa⟩ := q
      simp only [] at d0 d1 d2 d3
      have hgo : ¬ (qpe = pe ∧ qbt = bt ∧ qln = ln) → Hid (atP (plR rts pe bt ln) (i + 1) = atP (plR rts pe bt ln) i) := fun hne => by
        show _ = _
        rw [HS, (rtNe_iff pe bt ln ⟨qpe, qbt, qln, qpa⟩).2 hne]
        rfl
      by_cases e1 : qpe = pe
      · subst e1
        have q0 : (qpe == qpe) = true := by simp
        by_cases e2 : qbt = bt ∧ qln = ln
        · obtain ⟨rfl, rfl⟩ := e2
          have HN : Hid (atP (plR rts qpe qbt qln) (i + 1) = (i : Int)) := by
            show _ = _
            rw [HS]
            have : rtNe qpe qbt qln ⟨qpe, qbt, qln, qpa⟩ = false := by
              cases hh : rtNe qpe qbt qln ⟨qpe, qbt, qln, qpa⟩
              · rfl
              · exact absurd ⟨rfl, rfl, rfl⟩ ((rtNe_iff _ _ _ _).1 hh)
            rw [this]
            rfl
          clear HS hgo
          go_wp2_with fail
          go_quiet (fail)
          go_wp2_with fail
          go_roundw
          case rel => exact ⟨i + 1, by go_num, by rw [HN.out], by omega, below_drewN hbel _⟩
          case measure => simp [intOf]; omega
        · have HN := hgo (fun hh => e2 hh.2)
          have q : (qbt == bt) = false ∨ (qln == ln) = false := by
            by_cases xx : qbt = bt
            · right; simp; exact fun y => e2 ⟨xx, y⟩
            · left; simpa using xx
          clear HS hgo e2
          rcases q with q | q
          all_goals
            go_wp2_with fail
            go_quiet (fail)
            go_wp2_with fail
            go_roundw
            case rel => exact ⟨i + 1, by go_num, by rw [HN.out], by omega, below_drewN hbel _⟩
            case measure => simp [intOf]; omega
      · have HN := hgo (fun hh => e1 hh.1)
        have q0 : (qpe == pe) = false := by simpa using e1
        clear HS hgo e1
        go_wp2_with fail
        go_quiet (fail)
        go_wp2_with fail
        go_roundw
        case rel => exact ⟨i + 1, by go_num, by rw [HN.out], by omega, below_drewN hbel _⟩
        case measure => simp [intOf]; omega
    · obtain rfl : i = rts.length := by omega
      have HJr : Hid (RunJ X B wr r x c lk hd gs tv (.slice ro rts.length rc) lv rts rls st F) := HJ.out.below hbw
      have HBr : Hid (Below B w wr) := hbw.mono HJ.out.bz
      have k0 := (hbw.cell (p := ⟨r, 0, none⟩) hrz).trans c0
      have hrr := HJr.out.lt
      have hpr : w.heap.size < wr.heap.size := by have := hbel.size; omega
      have hnFr := HJ.out.nF
      have hnFp : ¬ F w.heap.size := fun hf => by have := X.lt HJ.out.inv _ hf; omega
      have HPr : Hid (PfVar wr w.heap.size bt ln) := HP0.out.below hbel
      have HSX : Hid (∀ w' : World, w'.heap[r]? = wr.heap[r]? → w'.heap[w.heap.size]? = wr.heap[w.heap.size]? → w'.cell? ⟨r, 0, none⟩ = some (.pointer (some ⟨x, 0, none⟩)) ∧ w'.cell? ⟨w.heap.size, 0, none⟩ = some (.int .i64 bt) ∧ w'.cell? ⟨w.heap.size, 1, none⟩ = some (.int .i64 ln)) := fun w' e1 e2 =>
        ⟨(World.cell?_of_block (w := wr) (a := ⟨r, 0, none⟩) e1).trans k0, (World.cell?_of_block (w := wr) (a := ⟨w.heap.size, 0, none⟩) e2).trans p0, (World.cell?_of_block (w := wr) (a := ⟨w.heap.size, 1, none⟩) e2).trans p1⟩
      have HANC : Hid (∀ W, Below wr.heap.size wr W → Calls Tryz.prog 47 #[.pointer (some ⟨x, 0, none⟩), .int .i64 pe, .agg #[.int .i64 bt, .int .i64 ln], .int .i64 pa] W fun e w' => ∃ a n k F' st', e = .returned (.tuple #[.slice a n k, .int .i64 (anE st pe bt ln pa)]) ∧ WsOK w' (anE st pe bt ln pa) (tabS st) (tabS (anS st pe bt ln pa)) a n k ∧ Sim st' (anS st pe bt ln pa) ∧ RunJ X B w' r x c lk hd gs tv (.slice ro rts.length rc) lv rts rls st' F' ∧ Below B wr w' ∧ w'.heap[w.heap.size]? = wr.heap[w.heap.size]? ∧ wr.heap.size ≤ w'.heap.size ∧ (w'.cell? ⟨r, 0, none⟩ = some (.pointer (some ⟨x, 0, none⟩)) ∧ w'.cell? ⟨w.heap.size, 0, none⟩ = some (.int .i64 bt) ∧ w'.cell? ⟨w.heap.size, 1, none⟩ = some (.int .i64 ln))) := fun W hW => by
        refine (HAN.out W (hbw.trans (hW.mono hbw.size))).mono ?_
        rintro e w' ⟨a, n, k, F', st', rfl, q1, q2, q3, q4, q5⟩
        have jW := HJr.out.below hW
        obtain ⟨j3, b3⟩ := jW.call q5 q3 q4
        have e1 : w'.heap[r]? = wr.heap[r]? := (q5.block r (by have := hW.size; omega) hnFr).trans (hW.block r hrr)
        have e2 : w'.heap[w.heap.size]? = wr.heap[w.heap.size]? := (q5.block _ (by have := hW.size; omega) hnFp).trans (hW.block _ hpr)
        exact ⟨a, n, k, F', st', rfl, q1, q2, j3, (hW.mono HJr.out.bz).trans b3, e2, by have := hW.size; have := q5.size; omega, HSX.out w' e1 e2⟩
      clear HST
      by_cases hpl : plR rts pe bt ln < rts.length
      · have hx := anE_at HOK.out h1 h2 h3 hpl
        have hat := plR_at hpl
        have HE0 : anE st pe bt ln pa = 0 := by rw [hE]; exact hx.1
        rw [HE0] at HANC
        have HSS : Hid (Sim ⟨c, rts.set (plR rts pe bt ln) ⟨pe, bt, ln, pa⟩, rls⟩ (anS ⟨c, rts, rls⟩ pe bt ln pa)) := hx.2
        have HSA : Hid (roS rts pe bt ln pa = rts.set (plR rts pe bt ln) ⟨pe, bt, ln, pa⟩) := by show _ = _; unfold roS; rw [if_pos hpl]
        have HAT : Hid (atP (plR rts pe bt ln) rts.length = (plR rts pe bt ln : Int)) := by show _ = _; unfold atP; rw [if_pos hpl]
        obtain ⟨rk, rfl, hrkz, _, _, _⟩ := HJr.out.rowR _ hpl
        have HATS : Hid (rts.set (plR rts pe bt ln) ⟨(rts[plR rts pe bt ln]'hpl).pe, (rts[plR rts pe bt ln]'hpl).bt, (rts[plR rts pe bt ln]'hpl).ln, pa⟩ = rts.set (plR rts pe bt ln) ⟨pe, bt, ln, pa⟩) := by show _ = _; rw [hat.1, hat.2.1, hat.2.2]
        have HK : Hid (plR rts pe bt ln < rts.length) := hpl
        rw [HAT.out]
        have g0 : decide (((plR rts pe bt ln : Nat) : Int) < 0) = false := by simp
        have hkI : ((plR rts pe bt ln : Nat) : Int) < (rts.length : Int) := by omega
        clear hx hat HAT HE0 HAN hE h1 h2 h3
        go_upto_region 10 with fail
        go_region_held3 (fun w' => w'.cell? ⟨r, 0, none⟩ = some (.pointer (some ⟨x, 0, none⟩)) ∧ w'.cell? ⟨w.heap.size, 0, none⟩ = some (.int .i64 bt) ∧ w'.cell? ⟨w.heap.size, 1, none⟩ = some (.int .i64 ln))
          (first | assumption | exact HSX.out _ rfl rfl)
          (first | (go_at_call 47; refine (HANC.out _ ?_).mono ?_; (exact (Below.refl _ _).drew); rintro e w3 ⟨a, n, cc, F', st', rfl, q1, q2, j3, b3, _, _, hS3⟩))
        clear hS3
        go_wp2_with (go_at_call 45; refine (told_yes HTD j3 HTT.out a n cc q1).mono ?_; rintro e w4 ⟨rfl, tv', j4, t4, b4, o4⟩; have y7 := cell_of_row w4 r 7 _ _ _ j4.cell; simp only [runC] at y7; obtain ⟨rk', erk, _, yf, ⟨u, yu⟩, hset⟩ := j4.rowR _ HK.out; simp only [Option.some.injEq, Addr.mk.injEq, and_true] at erk; subst erk)
        go_returns
        have hfin := hset pa
        refine ⟨rfl, RunI.fin (rv := .slice (some ⟨rk, 0, none⟩) rts.length rc) (lv := lv) (tv := tv') (st := st') (F := F') ?_ ?_ t4.1 q2, ((HBr.out.trans b3).trans b4).trans hfin.2⟩
        · rw [HSA.out, ← HATS.out]
          exact hfin.1
        · rw [HSA.out]
          exact q2.trans ((HSM.out.anS pe bt ln pa).trans HSS.out.symm)
      · obtain ⟨hxe, hxs⟩ := anE_new (st := ⟨c, rts, rls⟩) h1 h2 h3 hpl
        have HAT : Hid (atP (plR rts pe bt ln) rts.length = -1) := by show _ = _; unfold atP; rw [if_neg hpl]
        rw [HAT.out]
        by_cases hfull : 24 ≤ rts.length
        · have HE0 : anE st pe bt ln pa = 10 := by rw [hE]; exact hxe.trans (if_pos hfull)
          have HS0 : Hid (anS st pe bt ln pa = st) := anS_nz (by rw [HE0]; decide)
          rw [HE0] at HANC
          have HSA : Hid (roS rts pe bt ln pa = rts) := by show _ = _; unfold roS; rw [if_neg hpl, if_pos hfull]
          clear hxe hxs HAT HE0 HAN hE h1 h2 h3 hpl
          go_upto_region 10 with fail
          go_region_held3 (fun w' => w'.cell? ⟨r, 0, none⟩ = some (.pointer (some ⟨x, 0, none⟩)) ∧ w'.cell? ⟨w.heap.size, 0, none⟩ = some (.int .i64 bt) ∧ w'.cell? ⟨w.heap.size, 1, none⟩ = some (.int .i64 ln))
            (first | assumption | exact HSX.out _ rfl rfl)
            (first | (go_at_call 47; refine (HANC.out _ ?_).mono ?_; (exact (Below.refl _ _).drew); rintro e w3 ⟨a, n, cc, F', st', rfl, q1, q2, j3, b3, _, _, hS3⟩; obtain ⟨rfl, qT⟩ := q1.1 (by decide); clear q1))
          clear hS3
          go_wp2_with (go_at_call 45; refine (told_no HTD j3 (fun hl => (HTT.out hl).trans qT.symm) a cc 10 (by decide)).mono ?_; rintro e w4 ⟨rfl, tv', j4, t4, b4, o4⟩)
          go_returns
          refine ⟨rfl, RunI.fin (rv := .slice ro rts.length rc) (lv := lv) (tv := tv') (st := st') (F := F') ?_ ?_ t4.1 q2, (HBr.out.trans b3).trans b4⟩
          · rw [HSA.out]; exact j4
          · rw [HSA.out]
            rw [HS0.out] at q2
            exact q2.trans HSM.out
        · have HE0 : anE st pe bt ln pa = 0 := by rw [hE]; exact hxe.trans (if_neg hfull)
          have g6 : rts.length < 24 := by omega
          rw [HE0] at HANC
          have HSA : Hid (roS rts pe bt ln pa = rts ++ [⟨pe, bt, ln, pa⟩]) := by show _ = _; unfold roS; rw [if_neg hpl, if_neg hfull]
          have HSS : Hid (anS ⟨c, rts, rls⟩ pe bt ln pa = ⟨c, rts ++ [⟨pe, bt, ln, pa⟩], rls⟩) := hxs g6
          clear hxe hxs HAT HE0 HAN hE h1 h2 h3 hpl hfull
          go_upto_region 10 with fail
          go_region_held3 (fun w' => w'.cell? ⟨r, 0, none⟩ = some (.pointer (some ⟨x, 0, none⟩)) ∧ w'.cell? ⟨w.heap.size, 0, none⟩ = some (.int .i64 bt) ∧ w'.cell? ⟨w.heap.size, 1, none⟩ = some (.int .i64 ln))
            (first | assumption | exact HSX.out _ rfl rfl)
            (first | (go_at_call 47; refine (HANC.out _ ?_).mono ?_; (exact (Below.refl _ _).drew); rintro e w3 ⟨a, n, cc, F', st', rfl, q1, q2, j3, b3, hp3, hz3, hS3⟩))
          clear hS3
          go_upto_region 14 with (go_at_call 45; refine (told_yes HTD j3 HTT.out a n cc q1).mono ?_; rintro e w4 ⟨rfl, tv', j4, t4, b4, o4⟩)
          have J4 : Hid (RunJ X B w4 r x c lk hd gs tv' (.slice ro rts.length rc) lv rts rls st' F') := j4
          have hr4 := j4.lt
          have nlo : some r ≠ (Value.slice ro rts.length rc).ownBlock := fun e => (j4.rF r e.symm).2.1 rfl
          have y7 := cell_of_row w4 r 7 _ _ _ j4.cell
          simp only [runC] at y7
          have hp4 : PfVar w4 w.heap.size bt ln := (o4.block _ (by omega) (fun e => by omega)).trans (hp3.trans HPr.out)
          obtain ⟨z0, z1, _, _⟩ := hp4.get
          have h63 : Hid (rts.length + 1 ≤ maxLen) := by show _ ≤ _; unfold maxLen; omega
          have hby : Hid ((rts.length + 1) * 32 ≤ 140737488355328) := by show _ ≤ _; omega
          have hBz : Hid (B ≤ w4.heap.size + 1) := by show _ ≤ _; have := j4.bz; omega
          clear j4 hp4
          go_region_law
            ((refine step_append_lies _ (by rfl) _ _ 30 (by rfl) B 69 i0 _ 4 32 Tryz.underlying30 hi hz0 hz1 hz2 rfl (by decide) _ _ _ (by rfl) (ownsRow_below J4.out.rrow ((Below.refl _ _).alloc (Nat.le_refl _) _).drew) ⟨w4.heap.size, 0, none⟩ 1 1 (rtC ⟨pe, bt, ln, pa⟩) (by rfl) rfl (World.news_of_block (heap_alloc_new w4 _)) (rtC_one _) (by decide) h63.out hby.out (by simpa using hBz.out) _ rfl ?_; intro g' cp w8 hown hgrow hat hlt8; have hb8 : w8.heap[r]? = w4.heap[r]? := (hgrow.block r (by simp; omega) nlo).trans ((below_alloc w4 _).block r hr4); have q8 := cell_of_row w8 r 7 _ _ _ (hb8.trans J4.out.cell); have q9 := frozen_of_row w8 r 7 _ _ (hb8.trans J4.out.cell); simp only [runC] at q8))
          all_goals
            go_wp2_with fail
            go_returns
            have hsz : w4.heap.size + 1 ≤ w8.heap.size := by simpa using hgrow.size
            have hall : ∀ b, b < w4.heap.size → some b ≠ (Value.slice ro rts.length rc).ownBlock → w8.heap[b]? = w4.heap[b]? := fun b hb hne => (hgrow.block b (by simp; omega) hne).trans ((below_alloc w4 _).block b hb)
            have hoff : Off (fun b => (Value.slice ro rts.length rc).ownBlock = some b) w4 w8 := ⟨hgrow.os, hgrow.tape, hgrow.output, by omega, fun b hb hn => hall b hb (fun e => hn e.symm)⟩
            have hrow' : w8.ownsRow B 69 4 (.slice (some ⟨g', 0, none⟩) (rts.length + 1) cp) (rts ++ [(⟨pe, bt, ln, pa⟩ : Rt)]).length (rtCs (rts ++ [(⟨pe, bt, ln, pa⟩ : Rt)])) := by
              have e : rtCs (rts ++ [(⟨pe, bt, ln, pa⟩ : Rt)]) = rtCs rts ++ rtC ⟨pe, bt, ln, pa⟩ := by simp [rtCs]
              rw [e, List.length_append]; exact hown
            have hfin := J4.out.growR hoff hrow' (fun b hb => by
              have e : g' = b := by simpa [Value.ownBlock] using hb
              subst e
              rcases hat with hat | hat
              · exact .inl hat
              · simp at hat; exact .inr (by omega))
            refine ⟨rfl, RunI.fin (rv := .slice (some ⟨g', 0, none⟩) (rts.length + 1) cp) (lv := lv) (tv := tv') (st := st') (F := F') ?_ ?_ t4.1 q2, ((HBr.out.trans b3).trans b4).trans hfin.2⟩
            · rw [HSA.out]; exact hfin.1
            · rw [HSA.out]
              have := HSM.out.anS pe bt ln pa
              rw [HSS.out] at this
              exact q2.trans this
end Go.Proofs.YtgkiknfpcbcnnabGreat

namespace Go.Proofs.YtgkiknfpcbcnnabGreat
open Go.RowKit
set_option maxRecDepth 20000

theorem wiE_of {st : Gs} {pe bt ln : Int} (h1 : peOK pe = true) (h2 : prefOK bt ln = true) : wiE st pe bt ln = if (st.rts.filter (rtNe pe bt ln)).length = st.rts.length then 11 else 0 := by unfold wiE; rw [if_pos h1, if_pos h2]
/-- What the law's account has behind a route that is taken back. -/
def baS (rts : List Rt) (pe bt ln : Int) : List Rt := rts.filter (rtNe pe bt ln)

set_option maxHeartbeats 3200000 in
theorem back1_any (X : XGate) {lk : Bool} (HTD : Hid (ToldOK X lk)) {B : Nat} {w : World} {r x : Nat} {c : Cf} {hd : Hd} {gs : Nat → Option Obj} {rts : List Rt} {rls : List Rl} (h : RunI X B w r x c lk hd gs rts rls) (pe bt ln : Int) (h1 : peOK pe = true) (h2 : prefOK bt ln = true) :
    Calls Tryz.prog 51 #[.pointer (some ⟨r, 0, none⟩), .int .i64 pe, .agg #[.int .i64 bt, .int .i64 ln]] w fun e w' => e = .returned (.tuple #[]) ∧ RunI X B w' r x c lk hd gs (baS rts pe bt ln) rls ∧ Below B w w' := by
  obtain ⟨i0, hi, hz0, hz1, hz2⟩ := info_parts infoSRt
  obtain ⟨tv, rv, lv, st, F, hj, hsim, htab⟩ := h.ex
  have HTT : Hid (lk = true → tv.T = tabS st) := fun hl => (htab hl).trans (hsim.tabS (X.ok hj.inv).tel).symm
  clear htab
  have HJ : Hid (RunJ X B w r x c lk hd gs tv rv lv rts rls st F) := hj
  have HSM : Hid (Sim st ⟨c, rts, rls⟩) := hsim
  have hok : GsOK ⟨c, rts, rls⟩ := GsOK.sim hsim.symm (X.ok hj.inv)
  have h24 : rts.length ≤ 24 := hok.r24
  obtain ⟨ro, rc, lo, lc, rfl, hlv, c0, c7, c8, c9, c10, hfz, hrin, hcin⟩ := hj.read
  have HC : Hid (RtIn w ro rts) := hrin
  have hrz := hj.lt
  have HRM : Hid (∀ W, Below w.heap.size w W → Calls Tryz.prog 79 #[.pointer (some ⟨x, 0, none⟩), .int .i64 pe, .agg #[.int .i64 bt, .int .i64 ln]] W fun e w' => XPostN X.Inv F W x st (if (rts.filter (rtNe pe bt ln)).length = rts.length then 11 else 0) (wiS st pe bt ln) e w') := fun W hW => by
    have b1 := peOK_bd h1
    obtain ⟨p0, p1, p2, p3, _⟩ := prefOK_bd h2
    have hI : X.Inv W x st F := X.same HJ.out.inv hW.size (fun b hb => hW.block b (X.lt HJ.out.inv b hb))
    have := X.withdrawN pe bt ln hI ⟨by omega, by omega⟩ ⟨by omega, by omega⟩ ⟨by omega, by omega⟩
    unfold ptrV at this
    have hE : wiE st pe bt ln = if (rts.filter (rtNe pe bt ln)).length = rts.length then 11 else 0 := (HSM.out.wiE pe bt ln).trans (wiE_of (st := ⟨c, rts, rls⟩) h1 h2)
    rw [hE] at this
    exact this
  have HRS : Hid (Sim (wiS st pe bt ln) (wiS ⟨c, rts, rls⟩ pe bt ln)) := hsim.wiS pe bt ln
  have HRE : Hid (wiE ⟨c, rts, rls⟩ pe bt ln = if (rts.filter (rtNe pe bt ln)).length = rts.length then 11 else 0) := wiE_of (st := ⟨c, rts, rls⟩) h1 h2
  clear h hj hsim hrin hcin c8 c9 c10 hfz hlv h1 h2
  obtain ⟨W0, hW0⟩ : ∃ W0, W0 = w.alloc (.cells #[.int .i64 bt, .int .i64 ln] 67) := ⟨_, rfl⟩
  have HW0 : Hid (W0 = w.alloc (.cells #[.int .i64 bt, .int .i64 ln] 67)) := hW0
  have hb0 : Below w.heap.size w W0 := by rw [hW0]; exact below_alloc _ _
  have HP0 : Hid (PfVar W0 w.heap.size bt ln) := by show _ = _; rw [hW0]; exact heap_alloc_new w _
  clear hW0
  have hz0w := hb0.size
  have hpz := lt_of_block HP0.out
  go_enter Tryz.func51, Tryz.ntmps51
  go_wp2_with fail
  rw [← HW0.out]
  go_loopw [6, 7] (fun v y wr => ∃ (i : Nat) (T : List Rt), y = .int .i64 i ∧ i ≤ rts.length ∧ SRt wr W0.heap.size v T ∧ Hid (T = (rts.take i).filter (rtNe pe bt ln)) ∧ Below W0.heap.size W0 wr) (fun _ y _ => rts.length - (intOf y).toNat)
  case atStart => exact ⟨0, [], rfl, Nat.zero_le _, SRt.nil _ _, by show _ = _; simp, Below.refl _ _⟩
  case round =>
    obtain ⟨i, T, rfl, hil, hrow, HT, hbel⟩ := hrel
    obtain ⟨oo, oc, rfl⟩ := ownsRow_shape hrow
    have hz := hbel.size
    have hbw : Below w.heap.size w wr := hb0.trans (hbel.mono hz0w)
    have k7 := (hbw.cell (p := ⟨r, 7, none⟩) hrz).trans c7
    obtain ⟨p0, p1, _, _⟩ := (HP0.out.below hbel).get
    have hTl : T.length ≤ 24 := by
      rw [HT.out]
      refine Nat.le_trans (List.length_filter_le _ _) ?_
      rw [List.length_take]; omega
    by_cases hlt : i < rts.length
    · obtain ⟨rk, ro', rfl, bz2, d0, d1, d2, d3⟩ := HC.out.below hbw i hlt
      have HFT : Hid ((rts.take (i + 1)).filter (rtNe pe bt ln) = (rts.take i).filter (rtNe pe bt ln) ++ (if rtNe pe bt ln rts[i] then [rts[i]] else [])) := gfilter_take _ rts i hlt
      generalize rts[i] = q at *
      obtain ⟨qpe, qbt, qln, qpa⟩ := q
      simp only [] at d0 d1 d2 d3
      have hkeep : ¬ (qpe = pe ∧ qbt = bt ∧ qln = ln) → Hid (T ++ [⟨qpe, qbt, qln, qpa⟩] = (rts.take (i + 1)).filter (rtNe pe bt ln)) := fun hne => by
        show _ = _
        rw [HFT.out, (rtNe_iff pe bt ln ⟨qpe, qbt, qln, qpa⟩).2 hne, ← HT.out]
        rfl
      by_cases e1 : qpe = pe
      · subst e1
        have q0 : (qpe != qpe) = false := by simp
        by_cases e2 : qbt = bt ∧ qln = ln
        · obtain ⟨rfl, rfl⟩ := e2
          have HN : Hid (T = (rts.take (i + 1)).filter (rtNe qpe qbt qln)) := by
            show _ = _
            have hno : rtNe qpe qbt qln ⟨qpe, qbt, qln, qpa⟩ = false := by
              cases hh : rtNe qpe qbt qln ⟨qpe, qbt, qln, qpa⟩
              · rfl
              · exact absurd ⟨rfl, rfl, rfl⟩ ((rtNe_iff _ _ _ _).1 hh)
            rw [HFT.out, hno, ← HT.out]
            simp
          clear hkeep HFT HT
          go_wp2_with fail
          go_quiet (fail)
          go_wp2_with fail
          go_roundw
          case rel => exact ⟨i + 1, T, by go_num, by omega, ownsRow_below hrow (below_drewN (Below.refl _ _) _), HN, below_drewN hbel _⟩
          case measure => simp [intOf]; omega
        · have HN := hkeep (fun hh => e2 hh.2)
          have q : (qbt == bt) = false ∨ (qln == ln) = false := by
            by_cases xx : qbt = bt
            · right; simp; exact fun y => e2 ⟨xx, y⟩
            · left; simpa using xx
          clear hkeep HFT HT e2
          rcases q with q | q
          all_goals
            go_wp2_with fail
            go_quiet (fail)
            have hbq := below_drewN hbel nq
            have hbwq := below_drewN (Below.refl wr.heap.size wr) nq
            have hrq := ownsRow_below hrow hbwq
            generalize wr.drewN nq = wq at *
            have hzq := hbq.size
            have k7q := (hbwq.cell (p := ⟨r, 7, none⟩) (by show r < wr.heap.size; omega)).trans k7
            have s0 := (hbwq.cell (p := ⟨rk, ro' + i * 4, none⟩) bz2).trans d0
            have s1 := (hbwq.cell (p := ⟨rk, ro' + i * 4 + 1, none⟩) bz2).trans d1
            have s2 := (hbwq.cell (p := ⟨rk, ro' + i * 4 + 2, none⟩) bz2).trans d2
            have s3 := (hbwq.cell (p := ⟨rk, ro' + i * 4 + 3, none⟩) bz2).trans d3
            go_wp2_with (at_builtin; refine wpList_append_own _ rfl _ _ 30 rfl W0.heap.size 69 i0 _ 4 32 Tryz.underlying30 hi hz0 hz1 hz2 rfl (by decide) (.slice oo T.length oc) T.length (rtCs T) rfl (hrq.alloc _) ⟨wq.heap.size, 0, none⟩ 1 1 (rtC ⟨qpe, qbt, qln, qpa⟩) rfl rfl (World.news_of_block (heap_alloc_new wq _)) (rtC_one _) (by unfold maxLen; omega) (by omega) (by simp; omega) ?_; intro v' w4 hown hgrow _; obtain ⟨ao', cap', rfl⟩ := ownsRow_shape hown)
            go_roundw
            case rel => exact ⟨i + 1, _, by go_num, by omega, SRt.snoc hown, HN, (hbq.alloc hzq _).grown hgrow (by simp; omega) (fun k hk => (World.ownsRow.lt hrq k hk).1)⟩
            case measure => simp [intOf]; omega
      · have HN := hkeep (fun hh => e1 hh.1)
        have q0 : (qpe != pe) = true := by simpa using e1
        clear hkeep HFT HT e1
        go_wp2_with fail
        go_quiet (fail)
        have hbq := below_drewN hbel nq
        have hbwq := below_drewN (Below.refl wr.heap.size wr) nq
        have hrq := ownsRow_below hrow hbwq
        generalize wr.drewN nq = wq at *
        have hzq := hbq.size
        have k7q := (hbwq.cell (p := ⟨r, 7, none⟩) (by show r < wr.heap.size; omega)).trans k7
        have s0 := (hbwq.cell (p := ⟨rk, ro' + i * 4, none⟩) bz2).trans d0
        have s1 := (hbwq.cell (p := ⟨rk, ro' + i * 4 + 1, none⟩) bz2).trans d1
        have s2 := (hbwq.cell (p := ⟨rk, ro' + i * 4 + 2, none⟩) bz2).trans d2
        have s3 := (hbwq.cell (p := ⟨rk, ro' + i * 4 + 3, none⟩) bz2).trans d3
        go_wp2_with (at_builtin; refine wpList_append_own _ rfl _ _ 30 rfl W0.heap.size 69 i0 _ 4 32 Tryz.underlying30 hi hz0 hz1 hz2 rfl (by decide) (.slice oo T.length oc) T.length (rtCs T) rfl (hrq.alloc _) ⟨wq.heap.size, 0, none⟩ 1 1 (rtC ⟨qpe, qbt, qln, qpa⟩) rfl rfl (World.news_of_block (heap_alloc_new wq _)) (rtC_one _) (by unfold maxLen; omega) (by omega) (by simp; omega) ?_; intro v' w4 hown hgrow _; obtain ⟨ao', cap', rfl⟩ := ownsRow_shape hown)
        go_roundw
        case rel => exact ⟨i + 1, _, by go_num, by omega, SRt.snoc hown, HN, (hbq.alloc hzq _).grown hgrow (by simp; omega) (fun k hk => (World.ownsRow.lt hrq k hk).1)⟩
        case measure => simp [intOf]; omega
    · have HTa : Hid (T = rts.filter (rtNe pe bt ln)) := by show _ = _; rw [HT.out, List.take_of_length_le (by omega)]
      clear HT
      have k0 := (hbw.cell (p := ⟨r, 0, none⟩) hrz).trans c0
      have HJr : Hid (RunJ X B wr r x c lk hd gs tv (.slice ro rts.length rc) lv rts rls st F) := HJ.out.below hbw
      have HBr : Hid (Below B w wr) := hbw.mono HJ.out.bz
      have hrr := HJr.out.lt
      have hpr : w.heap.size < wr.heap.size := by omega
      have hnFr := HJ.out.nF
      have hnFp : ∀ b, w.heap.size ≤ b → ¬ F b := fun b hb hf => by have := X.lt HJ.out.inv _ hf; omega
      have HSX : Hid (∀ w' : World, w'.heap[r]? = wr.heap[r]? → w'.heap[w.heap.size]? = wr.heap[w.heap.size]? → w'.cell? ⟨r, 0, none⟩ = some (.pointer (some ⟨x, 0, none⟩)) ∧ w'.cell? ⟨w.heap.size, 0, none⟩ = some (.int .i64 bt) ∧ w'.cell? ⟨w.heap.size, 1, none⟩ = some (.int .i64 ln)) := fun w' e1 e2 =>
        ⟨(World.cell?_of_block (w := wr) (a := ⟨r, 0, none⟩) e1).trans k0, (World.cell?_of_block (w := wr) (a := ⟨w.heap.size, 0, none⟩) e2).trans p0, (World.cell?_of_block (w := wr) (a := ⟨w.heap.size, 1, none⟩) e2).trans p1⟩
      obtain ⟨er, her⟩ : ∃ er : Int, er = if (rts.filter (rtNe pe bt ln)).length = rts.length then 11 else 0 := ⟨_, rfl⟩
      have HANC : Hid (∀ W, Below wr.heap.size wr W → Calls Tryz.prog 79 #[.pointer (some ⟨x, 0, none⟩), .int .i64 pe, .agg #[.int .i64 bt, .int .i64 ln]] W fun e w' => ∃ a n k F' st', e = .returned (.tuple #[.slice a n k, .int .i64 er]) ∧ WsOK w' er (tabS st) (tabS (wiS st pe bt ln)) a n k ∧ Sim st' (wiS st pe bt ln) ∧ RunJ X B w' r x c lk hd gs tv (.slice ro rts.length rc) lv rts rls st' F' ∧ Below B wr w' ∧ (∀ b, F' b → F b ∨ wr.heap.size ≤ b) ∧ (∀ b, w.heap.size ≤ b → b < wr.heap.size → w'.heap[b]? = wr.heap[b]?) ∧ wr.heap.size ≤ w'.heap.size ∧ (w'.cell? ⟨r, 0, none⟩ = some (.pointer (some ⟨x, 0, none⟩)) ∧ w'.cell? ⟨w.heap.size, 0, none⟩ = some (.int .i64 bt) ∧ w'.cell? ⟨w.heap.size, 1, none⟩ = some (.int .i64 ln))) := fun W hW => by
        have hc := HRM.out W (hbw.trans (hW.mono hbw.size))
        rw [← her] at hc
        refine hc.mono ?_
        rintro e w' ⟨a, n, k, F', st', rfl, q1, q2, q3, q4, q5⟩
        have jW := HJr.out.below hW
        obtain ⟨j3, b3⟩ := jW.call q5 q3 q4
        have hWz := hW.size
        have e1 : w'.heap[r]? = wr.heap[r]? := (q5.block r (by omega) hnFr).trans (hW.block r hrr)
        have e2 : ∀ b, w.heap.size ≤ b → b < wr.heap.size → w'.heap[b]? = wr.heap[b]? := fun b hb hb2 => (q5.block _ (by omega) (hnFp b hb)).trans (hW.block _ hb2)
        exact ⟨a, n, k, F', st', rfl, q1, q2, j3, (hW.mono HJr.out.bz).trans b3, fun b hf => by rcases q4 b hf with hf | hf; exact .inl hf; exact .inr (by omega), e2, by have := q5.size; omega, HSX.out w' e1 (e2 _ (Nat.le_refl _) hpr)⟩
      have HRE2 := HRE.out
      rw [← her] at HRE2
      rw [← HTa.out] at her
      by_cases hfull : T.length = rts.length
      · obtain rfl : er = 11 := by rw [her, if_pos hfull]
        have g5 : ((T.length : Int) == (rts.length : Int)) = true := by simp; omega
        have HSA : Hid (baS rts pe bt ln = rts) := by
          show _ = _
          unfold baS
          exact filter_all (by rw [← HTa.out]; exact hfull)
        have HSS : Hid (Sim (wiS st pe bt ln) ⟨c, rts, rls⟩) := by
          have := HRS.out
          rw [wiS_nz (st := ⟨c, rts, rls⟩) (by rw [HRE2]; decide)] at this
          exact this
        clear HRE2 HRM hfull HTa her
        go_upto_region 10 with fail
        go_region_held3 (fun w' => w'.cell? ⟨r, 0, none⟩ = some (.pointer (some ⟨x, 0, none⟩)) ∧ w'.cell? ⟨w.heap.size, 0, none⟩ = some (.int .i64 bt) ∧ w'.cell? ⟨w.heap.size, 1, none⟩ = some (.int .i64 ln))
          (first | assumption | exact HSX.out _ rfl rfl)
          (first | (go_at_call 79; refine (HANC.out _ ?_).mono ?_; (exact (Below.refl _ _).drew); rintro e w3 ⟨a, n, cc, F', st', rfl, q1, q2, j3, b3, _, _, _, hS3⟩; obtain ⟨rfl, qT⟩ := q1.1 (by decide); clear q1))
        clear hS3
        go_wp2_with (go_at_call 45; refine (told_no HTD j3 (fun hl => (HTT.out hl).trans qT.symm) a cc 11 (by decide)).mono ?_; rintro e w4 ⟨rfl, tv', j4, t4, b4, o4⟩)
        go_returns
        refine ⟨rfl, RunI.fin (rv := .slice ro rts.length rc) (lv := lv) (tv := tv') (st := st') (F := F') ?_ ?_ t4.1 q2, (HBr.out.trans b3).trans b4⟩
        · rw [HSA.out]; exact j4
        · rw [HSA.out]; exact q2.trans HSS.out
      · obtain rfl : er = 0 := by rw [her, if_neg hfull]
        have g5 : ((T.length : Int) == (rts.length : Int)) = false := beq_eq_false_iff_ne.2 (by omega)
        have HSA : Hid (baS rts pe bt ln = T) := by show _ = _; rw [HTa.out]; rfl
        have HSS : Hid (Sim (wiS st pe bt ln) ⟨c, T, rls⟩) := by
          have h0 := HRS.out
          have e : wiS ⟨c, rts, rls⟩ pe bt ln = ⟨c, T, rls⟩ := by unfold wiS; rw [if_pos HRE2, ← HTa.out]
          rw [e] at h0
          exact h0
        have hvb : ∀ b, (Value.slice oo T.length oc).ownBlock = some b → W0.heap.size ≤ b ∧ b < wr.heap.size := fun b hb => World.ownsRow.lt hrow b hb
        clear HRE2 HRM hfull HTa her
        go_upto_region 10 with fail
        go_region_held3 (fun w' => w'.cell? ⟨r, 0, none⟩ = some (.pointer (some ⟨x, 0, none⟩)) ∧ w'.cell? ⟨w.heap.size, 0, none⟩ = some (.int .i64 bt) ∧ w'.cell? ⟨w.heap.size, 1, none⟩ = some (.int .i64 ln))
          (first | assumption | exact HSX.out _ rfl rfl)
          (first | (go_at_call 79; refine (HANC.out _ ?_).mono ?_; (exact (Below.refl _ _).drew); rintro e w3 ⟨a, n, cc, F', st', rfl, q1, q2, j3, b3, q4, hk3, hz3, hS3⟩))
        clear hS3
        go_wp2_with (go_at_call 45; refine (told_yes HTD j3 HTT.out a n cc q1).mono ?_; rintro e w4 ⟨rfl, tv', j4, t4, b4, o4⟩; have y7 := cell_of_row w4 r 7 _ _ _ j4.cell; simp only [runC] at y7; have yf := frozen_of_row w4 r 7 _ _ j4.cell)
        go_returns
        have hr4 : w4.ownsRow B 69 4 (.slice oo T.length oc) T.length (rtCs T) := ownsRow_base (ownsRow_same hrow (fun b hb => (o4.block b (by have := (hvb b hb).2; omega) (fun e => by have := (hvb b hb).1; omega)).trans (hk3 b (by have := (hvb b hb).1; omega) (hvb b hb).2))) (by have := HJ.out.bz; omega)
        have hfin := j4.setR hr4 (fun b hb => ⟨fun hf => by
          rcases q4 b hf with hf | hf
          · exact hnFp b (by have := (hvb b hb).1; omega) hf
          · have := (hvb b hb).2; omega, by have := (hvb b hb).1; omega, fun e => by have := (hvb b hb).1; have := (World.ownsRow.lt HJ.out.lrow b e).2; omega⟩) (fun hl b hk e => by
          rcases t4.2 hl b hk with h | h
          · have := (HJ.out.tlt hl b h).2; have := (hvb b e).1; omega
          · have := (hvb b e).2; omega) (fun b o hg e => by have := HJ.out.glt hg; have := (hvb b e).1; omega)
        refine ⟨rfl, RunI.fin (rv := .slice oo T.length oc) (lv := lv) (tv := tv') (st := st') (F := F') ?_ ?_ t4.1 q2, ((HBr.out.trans b3).trans b4).setCell (p := ⟨r, 7, none⟩) HJ.out.br _⟩
        · rw [HSA.out]; exact hfin
        · rw [HSA.out]; exact q2.trans HSS.out
end Go.Proofs.YtgkiknfpcbcnnabGreat
