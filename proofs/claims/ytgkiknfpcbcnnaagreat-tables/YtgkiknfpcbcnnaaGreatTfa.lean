import Derived.Test.YtgkiknfpcbcnnaaGreatSba
import Derived.Test.YtgkiknfpcbcnnaaGreatTec
import Derived.Deep.RegionHeld3
import Derived.Deep.Cut
namespace Go.Proofs.YtgkiknfpcbcnnaaGreat
open Go.RowKit
set_option maxRecDepth 20000
set_option maxHeartbeats 3200000 in
theorem ont_announce (X : XGate) {w : World} {wl : Nat} {lab l2 : Nat → Nat} {ps : List Pr} {vals es ws : List Value} (h : LD X.toXBase w wl lab l2 ps vals es ws) (i : Nat) (hi : i < ps.length) (hkw : (ws.length + 1) * 24 ≤ 140737488355328) (o : OpS) (ho : OpOK o) (hod : Hd64 o.hd) (hkd : o.kd = 2) :
    Calls Tryz.prog 14 #[ptrV wl, ptrV ps[i].pb, opV o] w fun e w' => e = .returned (.bool true) ∧ DPost X.toXBase w wl lab l2 ps vals es ws 0 w' := by
  obtain ⟨kd, gt, pe, nn, tx, bt, ln, hd, cf⟩ := o
  obtain ⟨ogt, ope, onn, obt, oln, otx⟩ := ho
  simp only [] at hkd ogt ope onn obt oln otx hod
  have HOD : Hid (Hd64 hd) := hod
  clear hod
  subst hkd
  obtain ⟨cp, bu, n0, n1, n2, n3⟩ := cf
  obtain ⟨eo, ec, wo, wc, hL, hE, hV⟩ := h.ex
  obtain ⟨ga, gc, so, sc, h1, h2, h3⟩ := hL.ex
  have HH : Hid (LD X.toXBase w wl lab l2 ps vals es ws) := h
  have HL : Hid (LC X.toXBase w wl lab true (.slice eo es.length ec) (.slice wo ws.length wc) ps vals) := hL
  have HES : Hid (EsOK w lab l2 eo ec es) := hE
  have HWV : Hid (WssOK w lab l2 wo wc ws) := hV
  have HTB : Hid (TbOK w lab l2 ps) := h.tb
  have HW : Hid (w.heap[wl]? = some (.cells #[.slice ga ps.length gc, .bool true, .slice so vals.length sc, .slice eo es.length ec, .slice wo ws.length wc] 31 (0, 0))) := h1
  obtain ⟨p, hpe⟩ : ∃ p, p = ps[i] := ⟨_, rfl⟩
  have HPE : Hid (p = ps[i]) := hpe
  have hp : PrOK X.toXBase w lab i p := by rw [hpe]; exact h2.pr i hi
  have htb : TbAt w lab l2 i p := by rw [hpe]; exact h.tb i hi
  obtain ⟨to, tc, htv⟩ := ownsRow_shape htb.1
  have HTA : Hid (TbAt w lab l2 i p) := htb
  have HTV : Hid (p.tv = .slice to (tabS p.sy).length tc) := htv
  rw [← hpe]
  clear hpe htb htv
  obtain ⟨F, f1, f2⟩ := hp.gx
  obtain ⟨G, g1, g2⟩ := hp.gy
  have hwl := lt_of_block h1
  have hpb := lt_of_block hp.cell
  have HPL : Hid (lab p.pb = 4 + 5 * i) := hp.lb
  have HL0 : Hid (lab wl = 0) := hL.l0
  have HX : Hid (X.Inv w p.x p.sx F) := f1
  have HY : Hid (RGate w p.y p.sy G) := g1
  have HE : Hid (Sim p.sx p.sy) := hp.sim
  have HS : Hid (∀ b, F b → lab b = 5 + 5 * i) := f2
  have HSG : Hid (∀ b, G b → lab b = 6 + 5 * i) := g2
  have hpF : ¬ F p.pb := fun e => by have := f2 _ e; have := hp.lb; omega
  have hpG : ¬ G p.pb := fun e => by have := g2 _ e; have := hp.lb; omega
  have hwF : ¬ F wl := fun e => by have := f2 _ e; have := hL.l0; omega
  have hwG : ¬ G wl := fun e => by have := g2 _ e; have := hL.l0; omega
  have hoF : ¬ F w.heap.size := fun e => by have := X.lt f1 _ e; omega
  have hoG : ¬ G w.heap.size := fun e => by have := g1.lt _ e; omega
  have HI : Hid (i < ps.length) := hi
  have HPC : Hid (w.heap[p.pb]? = some (.cells #[ptrV p.x, ptrV p.y, p.tv] 55 (0, 0))) := hp.cell
  clear h hL hE hV h1 h2 h3 hp f1 f2 g1 g2
  obtain ⟨W0, hW0⟩ : ∃ W0, W0 = w.alloc (.cells #[.int .i64 2, .int .i64 gt, .int .i64 pe, .int .i64 nn, .string tx, .int .i64 bt, .int .i64 ln, .int .i64 hd.ds, .int .i64 hd.sr, .int .i64 hd.pr, .int .i64 hd.po, .int .i64 hd.fl, .bool hd.la, .int .i64 cp, .int .i64 bu, .int .i64 n0, .int .i64 n1, .int .i64 n2, .int .i64 n3] 43) := ⟨_, rfl⟩
  have HW0 : Hid (W0 = w.alloc (.cells #[.int .i64 2, .int .i64 gt, .int .i64 pe, .int .i64 nn, .string tx, .int .i64 bt, .int .i64 ln, .int .i64 hd.ds, .int .i64 hd.sr, .int .i64 hd.pr, .int .i64 hd.po, .int .i64 hd.fl, .bool hd.la, .int .i64 cp, .int .i64 bu, .int .i64 n0, .int .i64 n1, .int .i64 n2, .int .i64 n3] 43)) := hW0
  have hb0 : Below w.heap.size w W0 := by rw [hW0]; exact below_alloc _ _
  have hO0 : W0.heap[w.heap.size]? = some (.cells #[.int .i64 2, .int .i64 gt, .int .i64 pe, .int .i64 nn, .string tx, .int .i64 bt, .int .i64 ln, .int .i64 hd.ds, .int .i64 hd.sr, .int .i64 hd.pr, .int .i64 hd.po, .int .i64 hd.fl, .bool hd.la, .int .i64 cp, .int .i64 bu, .int .i64 n0, .int .i64 n1, .int .i64 n2, .int .i64 n3] 43 (0, 0)) := by rw [hW0]; exact heap_alloc_new w _
  have hz0 : W0.heap.size = w.heap.size + 1 := by rw [hW0]; simp
  clear hW0
  have HZ0 : Hid (W0.heap.size = w.heap.size + 1) := hz0
  have hoz : w.heap.size < W0.heap.size := by omega
  have hpz : p.pb < W0.heap.size := by omega
  have hwz : wl < W0.heap.size := by omega
  clear hz0
  have hP0 : W0.heap[p.pb]? = some (.cells #[ptrV p.x, ptrV p.y, p.tv] 55 (0, 0)) := (hb0.block _ hpb).trans HPC.out
  have HSS : Hid (∀ w' : World, w'.heap[w.heap.size]? = W0.heap[w.heap.size]? → w'.heap[p.pb]? = W0.heap[p.pb]? → (w'.cell? ⟨w.heap.size, 2, none⟩ = some (.int .i64 pe) ∧ w'.cell? ⟨w.heap.size, 3, none⟩ = some (.int .i64 nn) ∧ w'.cell? ⟨w.heap.size, 4, none⟩ = some (.string tx) ∧ w'.cell? ⟨w.heap.size, 5, none⟩ = some (.int .i64 bt) ∧ w'.cell? ⟨w.heap.size, 6, none⟩ = some (.int .i64 ln) ∧ w'.cell? ⟨p.pb, 0, none⟩ = some (.pointer (some ⟨p.x, 0, none⟩)) ∧ w'.cell? ⟨p.pb, 1, none⟩ = some (.pointer (some ⟨p.y, 0, none⟩)))) := fun w' e1 e2 =>
    ⟨cell_of_row w' w.heap.size 2 _ _ _ (e1.trans hO0), cell_of_row w' w.heap.size 3 _ _ _ (e1.trans hO0), cell_of_row w' w.heap.size 4 _ _ _ (e1.trans hO0), cell_of_row w' w.heap.size 5 _ _ _ (e1.trans hO0), cell_of_row w' w.heap.size 6 _ _ _ (e1.trans hO0), cell_of_row w' p.pb 0 _ _ _ (e2.trans hP0), cell_of_row w' p.pb 1 _ _ _ (e2.trans hP0)⟩
  have HO0 : Hid (W0.heap[w.heap.size]? = some (.cells #[.int .i64 2, .int .i64 gt, .int .i64 pe, .int .i64 nn, .string tx, .int .i64 bt, .int .i64 ln, .int .i64 hd.ds, .int .i64 hd.sr, .int .i64 hd.pr, .int .i64 hd.po, .int .i64 hd.fl, .bool hd.la, .int .i64 cp, .int .i64 bu, .int .i64 n0, .int .i64 n1, .int .i64 n2, .int .i64 n3] 43 (0, 0))) := hO0
  have HXC : Hid (∀ W, Below W0.heap.size W0 W → Calls Tryz.prog 22 #[.pointer (some ⟨p.x, 0, none⟩), .int .i64 pe, .agg #[.int .i64 bt, .int .i64 ln], .int .i64 nn] W fun e w' => ∃ a n c wr F' st', e = .returned (.tuple #[.slice a n c, .int .i64 (anE p.sx pe bt ln nn)]) ∧ n = wr.length ∧ WRow w' w.heap.size (.slice a wr.length c) wr ∧ ((anE p.sx pe bt ln nn) = 0 → WrOK (tabS p.sx) (tabS (anS p.sx pe bt ln nn)) wr) ∧ (∀ b, F' b → (Value.slice a wr.length c).ownBlock ≠ some b) ∧ ((anE p.sx pe bt ln nn) ≠ 0 → n = 0) ∧ Sim st' (anS p.sx pe bt ln nn) ∧ X.Inv w' p.x st' F' ∧ (∀ b, F' b → F b ∨ w.heap.size ≤ b) ∧ Off F W0 w' ∧ (w'.cell? ⟨w.heap.size, 2, none⟩ = some (.int .i64 pe) ∧ w'.cell? ⟨w.heap.size, 3, none⟩ = some (.int .i64 nn) ∧ w'.cell? ⟨w.heap.size, 4, none⟩ = some (.string tx) ∧ w'.cell? ⟨w.heap.size, 5, none⟩ = some (.int .i64 bt) ∧ w'.cell? ⟨w.heap.size, 6, none⟩ = some (.int .i64 ln) ∧ w'.cell? ⟨p.pb, 0, none⟩ = some (.pointer (some ⟨p.x, 0, none⟩)) ∧ w'.cell? ⟨p.pb, 1, none⟩ = some (.pointer (some ⟨p.y, 0, none⟩)))) := fun W hW => by
    have hI : X.Inv W p.x p.sx F := X.same HX.out (by have := hW.size; omega) (fun b hb => (hW.block b (by have := X.lt HX.out b hb; omega)).trans (hb0.block b (X.lt HX.out b hb)))
    have hc := X.announceW pe bt ln nn hI ope obt oln onn
    unfold ptrV at hc
    refine hc.mono ?_
    rintro e w' ⟨a, c, wr, F', st', rfl, q8, q1, q9, q2, q3, q4, q10, q5⟩
    have hoff : Off F W0 w' := (Off.of hW).trans q5 (fun b hb => .inl hb)
    exact ⟨a, wr.length, c, wr, F', st', rfl, rfl, ownsRow_base q8 (by have := hW.size; omega), q9, q10, fun hn => by rw [q1 hn]; rfl, q2, q3, fun b hb => by rcases q4 b hb with hf | hf; exact .inl hf; exact .inr (by have := hW.size; omega), hoff, HSS.out w' (hoff.block _ hoz hoF) (hoff.block _ hpz hpF)⟩
  have HS0 : Hid (W0.cell? ⟨w.heap.size, 2, none⟩ = some (.int .i64 pe) ∧ W0.cell? ⟨w.heap.size, 3, none⟩ = some (.int .i64 nn) ∧ W0.cell? ⟨w.heap.size, 4, none⟩ = some (.string tx) ∧ W0.cell? ⟨w.heap.size, 5, none⟩ = some (.int .i64 bt) ∧ W0.cell? ⟨w.heap.size, 6, none⟩ = some (.int .i64 ln) ∧ W0.cell? ⟨p.pb, 0, none⟩ = some (.pointer (some ⟨p.x, 0, none⟩)) ∧ W0.cell? ⟨p.pb, 1, none⟩ = some (.pointer (some ⟨p.y, 0, none⟩))) := HSS.out W0 rfl rfl
  clear hO0 hP0
  unfold ptrV
  obtain ⟨K, hK⟩ : ∃ K : World → Prop, K = fun w' => DPost X.toXBase w wl lab l2 ps vals es ws 0 w' := ⟨_, rfl⟩
  have HK : Hid (K = fun w' => DPost X.toXBase w wl lab l2 ps vals es ws 0 w') := hK
  suffices hsuff : Calls Tryz.prog 14 #[.pointer (some ⟨wl, 0, none⟩), .pointer (some ⟨p.pb, 0, none⟩), opV ⟨2, gt, pe, nn, tx, bt, ln, hd, ⟨cp, bu, n0, n1, n2, n3⟩⟩] w fun e w' => e = .returned (.bool true) ∧ K w' by
    refine hsuff.mono ?_
    rintro e w' ⟨he, hkk⟩
    rw [hK] at hkk
    exact ⟨he, hkk⟩
  clear hK
  simp only [opV, opL]
  go_enter Tryz.func14, Tryz.ntmps14
  go_upto_region 3 with fail
  rw [← HW0.out]
  obtain ⟨x2, x3, x4, x5, x6, x7, x8⟩ := HS0.out
  go_region_held3 (fun w' => w'.cell? ⟨w.heap.size, 2, none⟩ = some (.int .i64 pe) ∧ w'.cell? ⟨w.heap.size, 3, none⟩ = some (.int .i64 nn) ∧ w'.cell? ⟨w.heap.size, 4, none⟩ = some (.string tx) ∧ w'.cell? ⟨w.heap.size, 5, none⟩ = some (.int .i64 bt) ∧ w'.cell? ⟨w.heap.size, 6, none⟩ = some (.int .i64 ln) ∧ w'.cell? ⟨p.pb, 0, none⟩ = some (.pointer (some ⟨p.x, 0, none⟩)) ∧ w'.cell? ⟨p.pb, 1, none⟩ = some (.pointer (some ⟨p.y, 0, none⟩)))
    (first | assumption | exact HSS.out _ rfl rfl)
    (first | (go_at_call 22; refine (HXC.out _ ?_).mono ?_; (exact (Below.refl _ _).drew); rintro e w1 ⟨a, n, c, wr, F', st', rfl, hnn, q8, q9, q10, q1, q2, q3, q4, q5, hS1⟩))
  have ho1 : w1.heap[w.heap.size]? = W0.heap[w.heap.size]? := q5.block _ hoz hoF
  have hp1 : w1.heap[p.pb]? = W0.heap[p.pb]? := q5.block _ hpz hpF
  have hw1 : w1.heap[wl]? = W0.heap[wl]? := q5.block _ hwz hwF
  have hz1 := q5.size
  have HY1 : Hid (RGate w1 p.y p.sy G) := HY.out.same (by omega) (fun b hb => (q5.block b (by have := HY.out.lt b hb; omega) (fun hf => by have := HS.out b hf; have := HSG.out b hb; omega)).trans (hb0.block b (HY.out.lt b hb)))
  have HYC : Hid (∀ W, Below w1.heap.size w1 W → Calls Tryz.prog 23 #[.pointer (some ⟨p.y, 0, none⟩), .int .i64 pe, .agg #[.int .i64 bt, .int .i64 ln], .int .i64 nn] W fun e w' => e = .returned (.int .i64 (anE p.sx pe bt ln nn)) ∧ RGate w' p.y (anS p.sy pe bt ln nn) (Fr G w1 w') ∧ Off G w1 w' ∧ (w'.cell? ⟨w.heap.size, 2, none⟩ = some (.int .i64 pe) ∧ w'.cell? ⟨w.heap.size, 3, none⟩ = some (.int .i64 nn) ∧ w'.cell? ⟨w.heap.size, 4, none⟩ = some (.string tx) ∧ w'.cell? ⟨w.heap.size, 5, none⟩ = some (.int .i64 bt) ∧ w'.cell? ⟨w.heap.size, 6, none⟩ = some (.int .i64 ln) ∧ w'.cell? ⟨p.pb, 0, none⟩ = some (.pointer (some ⟨p.x, 0, none⟩)) ∧ w'.cell? ⟨p.pb, 1, none⟩ = some (.pointer (some ⟨p.y, 0, none⟩)))) := fun W hW => by
    have hR : RGate W p.y p.sy G := HY1.out.same hW.size (fun b hb => hW.block b (HY1.out.lt b hb))
    refine (refAnnounce_any p.y p.sy G pe bt ln nn W hR ).mono ?_
    rintro e w' ⟨rfl, q1, q2⟩
    have hoff : Off G w1 w' := (Off.of hW).trans q2 (fun b hb => .inl hb)
    refine ⟨by rw [HE.out.anE], q1.mono (fun b hb => ?_) (fun b hb => ?_), hoff, HSS.out w' ((hoff.block _ (by omega) hoG).trans ho1) ((hoff.block _ (by omega) hpG).trans hp1)⟩
    · rcases hb with hb | hb
      · exact .inl hb
      · exact .inr ⟨by have := hW.size; omega, hb.2⟩
    · rcases hb with hb | hb
      · have := HY1.out.lt b hb; have := hoff.size; omega
      · exact hb.2
  have Q1 : Hid ((anE p.sx pe bt ln nn) ≠ 0 → n = 0) := q1
  have Q2 : Hid (Sim st' (anS p.sx pe bt ln nn)) := q2
  have Q3 : Hid (X.Inv w1 p.x st' F') := q3
  have Q4 : Hid (∀ b, F' b → F b ∨ w.heap.size ≤ b) := q4
  have Q5 : Hid (Off F W0 w1) := q5
  have Q8 : Hid (WRow w1 w.heap.size (.slice a wr.length c) wr) := q8
  have Q10 : Hid (∀ b, F' b → (Value.slice a wr.length c).ownBlock ≠ some b) := q10
  have HNN : Hid (n = wr.length) := hnn
  have Q9 : Hid ((anE p.sx pe bt ln nn) = 0 → WrOK (tabS p.sy) (tabS (anS p.sy pe bt ln nn)) wr) := fun he => by
    have e1 := HE.out.tabS (X.ok HX.out).tel
    have e2 := q2.tabS (X.ok q3).tel
    have e3 := (q2.trans (HE.out.anS pe bt ln nn)).tabS (X.ok q3).tel
    rw [← e1, ← e3, e2]
    exact q9 he
  have Q11 : Hid ((anE p.sx pe bt ln nn) ≠ 0 → anS p.sy pe bt ln nn = p.sy) := fun he => by
    exact if_neg (by rw [← HE.out.anE]; exact he)
  clear q1 q2 q3 q4 q5 q8 q9 q10 hnn HXC
  clear x2 x3 x4 x5 x6 x7 x8 hS1
  have HE2 : Hid (Sim (anS p.sx pe bt ln nn) (anS p.sy pe bt ln nn)) := HE.out.anS pe bt ln nn
  generalize (anE p.sx pe bt ln nn) = er at *
  generalize (anS p.sx pe bt ln nn) = tx1 at *
  generalize (anS p.sy pe bt ln nn) = ty1 at *
  go_upto_region 4 with fail
  obtain ⟨x2, x3, x4, x5, x6, x7, x8⟩ := HSS.out w1 ho1 hp1
  go_region_held3 (fun w' => w'.cell? ⟨w.heap.size, 2, none⟩ = some (.int .i64 pe) ∧ w'.cell? ⟨w.heap.size, 3, none⟩ = some (.int .i64 nn) ∧ w'.cell? ⟨w.heap.size, 4, none⟩ = some (.string tx) ∧ w'.cell? ⟨w.heap.size, 5, none⟩ = some (.int .i64 bt) ∧ w'.cell? ⟨w.heap.size, 6, none⟩ = some (.int .i64 ln) ∧ w'.cell? ⟨p.pb, 0, none⟩ = some (.pointer (some ⟨p.x, 0, none⟩)) ∧ w'.cell? ⟨p.pb, 1, none⟩ = some (.pointer (some ⟨p.y, 0, none⟩)))
    (first | assumption | exact HSS.out _ ho1 hp1)
    (first | (go_at_call 23; refine (HYC.out _ ?_).mono ?_; (exact (Below.refl _ _).drew); rintro e w2 ⟨rfl, q6, q7, hS2⟩))
  have ho2 : w2.heap[w.heap.size]? = some (.cells #[.int .i64 2, .int .i64 gt, .int .i64 pe, .int .i64 nn, .string tx, .int .i64 bt, .int .i64 ln, .int .i64 hd.ds, .int .i64 hd.sr, .int .i64 hd.pr, .int .i64 hd.po, .int .i64 hd.fl, .bool hd.la, .int .i64 cp, .int .i64 bu, .int .i64 n0, .int .i64 n1, .int .i64 n2, .int .i64 n3] 43 (0, 0)) := (q7.block _ (by omega) hoG).trans (ho1.trans HO0.out)
  have y7 := cell_of_row w2 w.heap.size 7 _ _ _ ho2
  have y8 := cell_of_row w2 w.heap.size 8 _ _ _ ho2
  have y9 := cell_of_row w2 w.heap.size 9 _ _ _ ho2
  have y10 := cell_of_row w2 w.heap.size 10 _ _ _ ho2
  have y11 := cell_of_row w2 w.heap.size 11 _ _ _ ho2
  have y12 := cell_of_row w2 w.heap.size 12 _ _ _ ho2
  have hz2 := q7.size
  have HALL : Hid (∀ b, b < w.heap.size → ¬ F b → ¬ G b → w2.heap[b]? = w.heap[b]?) := fun b hb hf hg => (q7.block b (by omega) hg).trans ((Q5.out.block b (by omega) hf).trans (hb0.block b hb))
  have Q6 : Hid (RGate w2 p.y ty1 (Fr G w1 w2)) := q6
  have Q7 : Hid (Off G w1 w2) := q7
  have HLF : Hid (∀ b, lab b = 7 → ¬ F b ∧ ¬ G b) := fun b h7 => ⟨fun hf => by have := HS.out b hf; omega, fun hg => by have := HSG.out b hg; omega⟩
  have e := HPE.out
  have z2 := HY.out
  have z3 := Q3.out
  have z4 := Q6.out
  rw [e] at z2 z3 z4
  have Z2 : Hid (RGate w ps[i].y ps[i].sy G) := z2
  have Z3 : Hid (X.Inv w1 ps[i].x st' F') := z3
  have Z4 : Hid (RGate w2 ps[i].y ty1 (Fr G w1 w2)) := z4
  have HO1 : Hid (Off F w w1) := (Off.of hb0).trans Q5.out (fun b hb => .inl hb)
  clear hS2 q6 q7 x2 x3 x4 x5 x6 x7 x8 HYC ho2 e z2 z3 z4
  by_cases he : er = 0
  · subst he
    have hn0 := HNN.out
    subst hn0
    have hvb : ∀ b, (Value.slice a wr.length c).ownBlock = some b → w.heap.size ≤ b ∧ b < w1.heap.size := fun b hb => World.ownsRow.lt Q8.out b hb
    have hP2 : w2.heap[p.pb]? = some (.cells #[ptrV p.x, ptrV p.y, .slice to (tabS p.sy).length tc] 55 (0, 0)) := (HALL.out _ hpb hpF hpG).trans (by rw [HPC.out, HTV.out])
    have hW2 := (HALL.out _ hwl hwF hwG).trans HW.out
    have hrow2 := ownsRow_same (w' := w2) HWV.out.row (fun b hb => by
      have h7 := HLF.out b (HWV.out.rl b hb).1
      exact HALL.out b (World.ownsRow.lt HWV.out.row b hb).2 h7.1 h7.2)
    have hO2 : ERow w2 0 (.slice to (tabS p.sy).length tc) (tabS p.sy) := by
      have ht := HTA.out
      have h5 := ht.1.same (w' := w2) (fun b hb => by
        have h7 := HLF.out b (ht.2 b hb).1
        exact HALL.out b (World.ownsRow.lt ht.1 b hb).2 h7.1 h7.2)
      rw [HTV.out] at h5
      exact h5
    have hw2 : WRow w2 w.heap.size (.slice a wr.length c) wr := Q8.out.same (fun b hb => Q7.out.block b (hvb b hb).2 (fun hg => by have := HY.out.lt b hg; have := hvb b hb; omega))
    have hne : p.pb ≠ wl := fun e => by have := HPL.out; have := HL0.out; rw [e] at *; omega
    have hch := changedT_any wl p.pb p.y (ptrV p.x) ty1 (Fr G w1 w2) (tabS p.sy) to tc 0 a c w.heap.size wr hd w2 _ wo wc ws HOD.out hP2 hW2 rfl rfl hrow2 Q6.out hO2 hw2 (Q9.out rfl) hne (fun b hb => ⟨fun e => by have := hvb b hb; omega, fun e => by have := hvb b hb; omega⟩) hkw (fun b hb => ⟨fun e => by have := (HWV.out.rl b hb).1; have := HL0.out; rw [e] at *; omega, fun e => by have := (HWV.out.rl b hb).1; have := HPL.out; rw [e] at *; omega, fun e => by have := hvb b e; have := (World.ownsRow.lt HWV.out.row b hb).2; omega⟩)
    unfold ptrV hdV at hch
    have HCH := hid_calls hch
    have HW2 : Hid (w2.heap[wl]? = some (.cells #[.slice ga ps.length gc, .bool true, .slice so vals.length sc, .slice eo es.length ec, .slice wo ws.length wc] 31 (0, 0))) := hW2
    clear hch hP2 hW2 hrow2 hO2 hw2
    go_wp2_with (go_at_call 24; refine HCH.out.mono ?_; rintro e w9 ⟨rfl, q⟩)
    go_ret
    refine ⟨rfl, ?_⟩
    rw [HK.out]
    obtain ⟨nv, w3, w4, v', so', sc', b3, n3, s4, v4, e4, r4, n4, o4, rfl⟩ := q
    rw [HPE.out]
    exact LD.changed HL.out HES.out HWV.out HTB.out HI.out HS.out Z2.out HSG.out Z3.out Q4.out Q10.out hvb HO1.out Z4.out Q7.out (Q2.out.trans HE2.out) b3 n3 s4 v4 (fun cs hcs => by
      have hx := (b3.block wl (by omega)).trans HW2.out
      rw [hx] at hcs
      simp only [Option.some.injEq, Obj.cells.injEq] at hcs
      rw [← hcs.1]
      exact e4) r4 n4 o4
  · have hn0 := Q1.out he
    have hch := changedE_any wl p.pb a wr.length c er hd w2 he (HNN.out.symm.trans hn0)
    unfold ptrV hdV at hch
    have HCH := hid_calls hch
    have hsy := Q11.out he
    have HSY : Hid (ty1 = ps[i].sy) := hsy.trans (congrArg Pr.sy HPE.out)
    clear hch hsy he
    go_wp2_with (go_at_call 24; refine HCH.out.mono ?_; rintro e w3 ⟨rfl, hb3⟩)
    go_ret
    refine ⟨rfl, ?_⟩
    rw [HK.out]
    exact LD.refused HH.out HI.out HS.out Z2.out HSG.out Z3.out Q4.out HO1.out Z4.out Q7.out (Q2.out.trans HE2.out) hb3 HSY.out
end Go.Proofs.YtgkiknfpcbcnnaaGreat
namespace Go.Proofs.YtgkiknfpcbcnnaaGreat
open Go.RowKit
set_option maxRecDepth 20000
set_option maxHeartbeats 3200000 in
theorem ont_withdraw (X : XGate) {w : World} {wl : Nat} {lab l2 : Nat → Nat} {ps : List Pr} {vals es ws : List Value} (h : LD X.toXBase w wl lab l2 ps vals es ws) (i : Nat) (hi : i < ps.length) (hkw : (ws.length + 1) * 24 ≤ 140737488355328) (o : OpS) (ho : OpOK o) (hod : Hd64 o.hd) (hkd : o.kd = 3) :
    Calls Tryz.prog 14 #[ptrV wl, ptrV ps[i].pb, opV o] w fun e w' => e = .returned (.bool true) ∧ DPost X.toXBase w wl lab l2 ps vals es ws 0 w' := by
  obtain ⟨kd, gt, pe, nn, tx, bt, ln, hd, cf⟩ := o
  obtain ⟨ogt, ope, onn, obt, oln, otx⟩ := ho
  simp only [] at hkd ogt ope onn obt oln otx hod
  have HOD : Hid (Hd64 hd) := hod
  clear hod
  subst hkd
  obtain ⟨cp, bu, n0, n1, n2, n3⟩ := cf
  obtain ⟨eo, ec, wo, wc, hL, hE, hV⟩ := h.ex
  obtain ⟨ga, gc, so, sc, h1, h2, h3⟩ := hL.ex
  have HH : Hid (LD X.toXBase w wl lab l2 ps vals es ws) := h
  have HL : Hid (LC X.toXBase w wl lab true (.slice eo es.length ec) (.slice wo ws.length wc) ps vals) := hL
  have HES : Hid (EsOK w lab l2 eo ec es) := hE
  have HWV : Hid (WssOK w lab l2 wo wc ws) := hV
  have HTB : Hid (TbOK w lab l2 ps) := h.tb
  have HW : Hid (w.heap[wl]? = some (.cells #[.slice ga ps.length gc, .bool true, .slice so vals.length sc, .slice eo es.length ec, .slice wo ws.length wc] 31 (0, 0))) := h1
  obtain ⟨p, hpe⟩ : ∃ p, p = ps[i] := ⟨_, rfl⟩
  have HPE : Hid (p = ps[i]) := hpe
  have hp : PrOK X.toXBase w lab i p := by rw [hpe]; exact h2.pr i hi
  have htb : TbAt w lab l2 i p := by rw [hpe]; exact h.tb i hi
  obtain ⟨to, tc, htv⟩ := ownsRow_shape htb.1
  have HTA : Hid (TbAt w lab l2 i p) := htb
  have HTV : Hid (p.tv = .slice to (tabS p.sy).length tc) := htv
  rw [← hpe]
  clear hpe htb htv
  obtain ⟨F, f1, f2⟩ := hp.gx
  obtain ⟨G, g1, g2⟩ := hp.gy
  have hwl := lt_of_block h1
  have hpb := lt_of_block hp.cell
  have HPL : Hid (lab p.pb = 4 + 5 * i) := hp.lb
  have HL0 : Hid (lab wl = 0) := hL.l0
  have HX : Hid (X.Inv w p.x p.sx F) := f1
  have HY : Hid (RGate w p.y p.sy G) := g1
  have HE : Hid (Sim p.sx p.sy) := hp.sim
  have HS : Hid (∀ b, F b → lab b = 5 + 5 * i) := f2
  have HSG : Hid (∀ b, G b → lab b = 6 + 5 * i) := g2
  have hpF : ¬ F p.pb := fun e => by have := f2 _ e; have := hp.lb; omega
  have hpG : ¬ G p.pb := fun e => by have := g2 _ e; have := hp.lb; omega
  have hwF : ¬ F wl := fun e => by have := f2 _ e; have := hL.l0; omega
  have hwG : ¬ G wl := fun e => by have := g2 _ e; have := hL.l0; omega
  have hoF : ¬ F w.heap.size := fun e => by have := X.lt f1 _ e; omega
  have hoG : ¬ G w.heap.size := fun e => by have := g1.lt _ e; omega
  have HI : Hid (i < ps.length) := hi
  have HPC : Hid (w.heap[p.pb]? = some (.cells #[ptrV p.x, ptrV p.y, p.tv] 55 (0, 0))) := hp.cell
  clear h hL hE hV h1 h2 h3 hp f1 f2 g1 g2
  obtain ⟨W0, hW0⟩ : ∃ W0, W0 = w.alloc (.cells #[.int .i64 3, .int .i64 gt, .int .i64 pe, .int .i64 nn, .string tx, .int .i64 bt, .int .i64 ln, .int .i64 hd.ds, .int .i64 hd.sr, .int .i64 hd.pr, .int .i64 hd.po, .int .i64 hd.fl, .bool hd.la, .int .i64 cp, .int .i64 bu, .int .i64 n0, .int .i64 n1, .int .i64 n2, .int .i64 n3] 43) := ⟨_, rfl⟩
  have HW0 : Hid (W0 = w.alloc (.cells #[.int .i64 3, .int .i64 gt, .int .i64 pe, .int .i64 nn, .string tx, .int .i64 bt, .int .i64 ln, .int .i64 hd.ds, .int .i64 hd.sr, .int .i64 hd.pr, .int .i64 hd.po, .int .i64 hd.fl, .bool hd.la, .int .i64 cp, .int .i64 bu, .int .i64 n0, .int .i64 n1, .int .i64 n2, .int .i64 n3] 43)) := hW0
  have hb0 : Below w.heap.size w W0 := by rw [hW0]; exact below_alloc _ _
  have hO0 : W0.heap[w.heap.size]? = some (.cells #[.int .i64 3, .int .i64 gt, .int .i64 pe, .int .i64 nn, .string tx, .int .i64 bt, .int .i64 ln, .int .i64 hd.ds, .int .i64 hd.sr, .int .i64 hd.pr, .int .i64 hd.po, .int .i64 hd.fl, .bool hd.la, .int .i64 cp, .int .i64 bu, .int .i64 n0, .int .i64 n1, .int .i64 n2, .int .i64 n3] 43 (0, 0)) := by rw [hW0]; exact heap_alloc_new w _
  have hz0 : W0.heap.size = w.heap.size + 1 := by rw [hW0]; simp
  clear hW0
  have HZ0 : Hid (W0.heap.size = w.heap.size + 1) := hz0
  have hoz : w.heap.size < W0.heap.size := by omega
  have hpz : p.pb < W0.heap.size := by omega
  have hwz : wl < W0.heap.size := by omega
  clear hz0
  have hP0 : W0.heap[p.pb]? = some (.cells #[ptrV p.x, ptrV p.y, p.tv] 55 (0, 0)) := (hb0.block _ hpb).trans HPC.out
  have HSS : Hid (∀ w' : World, w'.heap[w.heap.size]? = W0.heap[w.heap.size]? → w'.heap[p.pb]? = W0.heap[p.pb]? → (w'.cell? ⟨w.heap.size, 2, none⟩ = some (.int .i64 pe) ∧ w'.cell? ⟨w.heap.size, 3, none⟩ = some (.int .i64 nn) ∧ w'.cell? ⟨w.heap.size, 4, none⟩ = some (.string tx) ∧ w'.cell? ⟨w.heap.size, 5, none⟩ = some (.int .i64 bt) ∧ w'.cell? ⟨w.heap.size, 6, none⟩ = some (.int .i64 ln) ∧ w'.cell? ⟨p.pb, 0, none⟩ = some (.pointer (some ⟨p.x, 0, none⟩)) ∧ w'.cell? ⟨p.pb, 1, none⟩ = some (.pointer (some ⟨p.y, 0, none⟩)))) := fun w' e1 e2 =>
    ⟨cell_of_row w' w.heap.size 2 _ _ _ (e1.trans hO0), cell_of_row w' w.heap.size 3 _ _ _ (e1.trans hO0), cell_of_row w' w.heap.size 4 _ _ _ (e1.trans hO0), cell_of_row w' w.heap.size 5 _ _ _ (e1.trans hO0), cell_of_row w' w.heap.size 6 _ _ _ (e1.trans hO0), cell_of_row w' p.pb 0 _ _ _ (e2.trans hP0), cell_of_row w' p.pb 1 _ _ _ (e2.trans hP0)⟩
  have HO0 : Hid (W0.heap[w.heap.size]? = some (.cells #[.int .i64 3, .int .i64 gt, .int .i64 pe, .int .i64 nn, .string tx, .int .i64 bt, .int .i64 ln, .int .i64 hd.ds, .int .i64 hd.sr, .int .i64 hd.pr, .int .i64 hd.po, .int .i64 hd.fl, .bool hd.la, .int .i64 cp, .int .i64 bu, .int .i64 n0, .int .i64 n1, .int .i64 n2, .int .i64 n3] 43 (0, 0))) := hO0
  have HXC : Hid (∀ W, Below W0.heap.size W0 W → Calls Tryz.prog 25 #[.pointer (some ⟨p.x, 0, none⟩), .int .i64 pe, .agg #[.int .i64 bt, .int .i64 ln]] W fun e w' => ∃ a n c wr F' st', e = .returned (.tuple #[.slice a n c, .int .i64 (wiE p.sx pe bt ln)]) ∧ n = wr.length ∧ WRow w' w.heap.size (.slice a wr.length c) wr ∧ ((wiE p.sx pe bt ln) = 0 → WrOK (tabS p.sx) (tabS (wiS p.sx pe bt ln)) wr) ∧ (∀ b, F' b → (Value.slice a wr.length c).ownBlock ≠ some b) ∧ ((wiE p.sx pe bt ln) ≠ 0 → n = 0) ∧ Sim st' (wiS p.sx pe bt ln) ∧ X.Inv w' p.x st' F' ∧ (∀ b, F' b → F b ∨ w.heap.size ≤ b) ∧ Off F W0 w' ∧ (w'.cell? ⟨w.heap.size, 2, none⟩ = some (.int .i64 pe) ∧ w'.cell? ⟨w.heap.size, 3, none⟩ = some (.int .i64 nn) ∧ w'.cell? ⟨w.heap.size, 4, none⟩ = some (.string tx) ∧ w'.cell? ⟨w.heap.size, 5, none⟩ = some (.int .i64 bt) ∧ w'.cell? ⟨w.heap.size, 6, none⟩ = some (.int .i64 ln) ∧ w'.cell? ⟨p.pb, 0, none⟩ = some (.pointer (some ⟨p.x, 0, none⟩)) ∧ w'.cell? ⟨p.pb, 1, none⟩ = some (.pointer (some ⟨p.y, 0, none⟩)))) := fun W hW => by
    have hI : X.Inv W p.x p.sx F := X.same HX.out (by have := hW.size; omega) (fun b hb => (hW.block b (by have := X.lt HX.out b hb; omega)).trans (hb0.block b (X.lt HX.out b hb)))
    have hc := X.withdrawW pe bt ln hI ope obt oln
    unfold ptrV at hc
    refine hc.mono ?_
    rintro e w' ⟨a, c, wr, F', st', rfl, q8, q1, q9, q2, q3, q4, q10, q5⟩
    have hoff : Off F W0 w' := (Off.of hW).trans q5 (fun b hb => .inl hb)
    exact ⟨a, wr.length, c, wr, F', st', rfl, rfl, ownsRow_base q8 (by have := hW.size; omega), q9, q10, fun hn => by rw [q1 hn]; rfl, q2, q3, fun b hb => by rcases q4 b hb with hf | hf; exact .inl hf; exact .inr (by have := hW.size; omega), hoff, HSS.out w' (hoff.block _ hoz hoF) (hoff.block _ hpz hpF)⟩
  have HS0 : Hid (W0.cell? ⟨w.heap.size, 2, none⟩ = some (.int .i64 pe) ∧ W0.cell? ⟨w.heap.size, 3, none⟩ = some (.int .i64 nn) ∧ W0.cell? ⟨w.heap.size, 4, none⟩ = some (.string tx) ∧ W0.cell? ⟨w.heap.size, 5, none⟩ = some (.int .i64 bt) ∧ W0.cell? ⟨w.heap.size, 6, none⟩ = some (.int .i64 ln) ∧ W0.cell? ⟨p.pb, 0, none⟩ = some (.pointer (some ⟨p.x, 0, none⟩)) ∧ W0.cell? ⟨p.pb, 1, none⟩ = some (.pointer (some ⟨p.y, 0, none⟩))) := HSS.out W0 rfl rfl
  clear hO0 hP0
  unfold ptrV
  obtain ⟨K, hK⟩ : ∃ K : World → Prop, K = fun w' => DPost X.toXBase w wl lab l2 ps vals es ws 0 w' := ⟨_, rfl⟩
  have HK : Hid (K = fun w' => DPost X.toXBase w wl lab l2 ps vals es ws 0 w') := hK
  suffices hsuff : Calls Tryz.prog 14 #[.pointer (some ⟨wl, 0, none⟩), .pointer (some ⟨p.pb, 0, none⟩), opV ⟨3, gt, pe, nn, tx, bt, ln, hd, ⟨cp, bu, n0, n1, n2, n3⟩⟩] w fun e w' => e = .returned (.bool true) ∧ K w' by
    refine hsuff.mono ?_
    rintro e w' ⟨he, hkk⟩
    rw [hK] at hkk
    exact ⟨he, hkk⟩
  clear hK
  simp only [opV, opL]
  go_enter Tryz.func14, Tryz.ntmps14
  go_upto_region 7 with fail
  rw [← HW0.out]
  obtain ⟨x2, x3, x4, x5, x6, x7, x8⟩ := HS0.out
  go_region_held3 (fun w' => w'.cell? ⟨w.heap.size, 2, none⟩ = some (.int .i64 pe) ∧ w'.cell? ⟨w.heap.size, 3, none⟩ = some (.int .i64 nn) ∧ w'.cell? ⟨w.heap.size, 4, none⟩ = some (.string tx) ∧ w'.cell? ⟨w.heap.size, 5, none⟩ = some (.int .i64 bt) ∧ w'.cell? ⟨w.heap.size, 6, none⟩ = some (.int .i64 ln) ∧ w'.cell? ⟨p.pb, 0, none⟩ = some (.pointer (some ⟨p.x, 0, none⟩)) ∧ w'.cell? ⟨p.pb, 1, none⟩ = some (.pointer (some ⟨p.y, 0, none⟩)))
    (first | assumption | exact HSS.out _ rfl rfl)
    (first | (go_at_call 25; refine (HXC.out _ ?_).mono ?_; (exact (Below.refl _ _).drew); rintro e w1 ⟨a, n, c, wr, F', st', rfl, hnn, q8, q9, q10, q1, q2, q3, q4, q5, hS1⟩))
  have ho1 : w1.heap[w.heap.size]? = W0.heap[w.heap.size]? := q5.block _ hoz hoF
  have hp1 : w1.heap[p.pb]? = W0.heap[p.pb]? := q5.block _ hpz hpF
  have hw1 : w1.heap[wl]? = W0.heap[wl]? := q5.block _ hwz hwF
  have hz1 := q5.size
  have HY1 : Hid (RGate w1 p.y p.sy G) := HY.out.same (by omega) (fun b hb => (q5.block b (by have := HY.out.lt b hb; omega) (fun hf => by have := HS.out b hf; have := HSG.out b hb; omega)).trans (hb0.block b (HY.out.lt b hb)))
  have HYC : Hid (∀ W, Below w1.heap.size w1 W → Calls Tryz.prog 26 #[.pointer (some ⟨p.y, 0, none⟩), .int .i64 pe, .agg #[.int .i64 bt, .int .i64 ln]] W fun e w' => e = .returned (.int .i64 (wiE p.sx pe bt ln)) ∧ RGate w' p.y (wiS p.sy pe bt ln) (Fr G w1 w') ∧ Off G w1 w' ∧ (w'.cell? ⟨w.heap.size, 2, none⟩ = some (.int .i64 pe) ∧ w'.cell? ⟨w.heap.size, 3, none⟩ = some (.int .i64 nn) ∧ w'.cell? ⟨w.heap.size, 4, none⟩ = some (.string tx) ∧ w'.cell? ⟨w.heap.size, 5, none⟩ = some (.int .i64 bt) ∧ w'.cell? ⟨w.heap.size, 6, none⟩ = some (.int .i64 ln) ∧ w'.cell? ⟨p.pb, 0, none⟩ = some (.pointer (some ⟨p.x, 0, none⟩)) ∧ w'.cell? ⟨p.pb, 1, none⟩ = some (.pointer (some ⟨p.y, 0, none⟩)))) := fun W hW => by
    have hR : RGate W p.y p.sy G := HY1.out.same hW.size (fun b hb => hW.block b (HY1.out.lt b hb))
    refine (refWithdraw_any p.y p.sy G pe bt ln W hR ).mono ?_
    rintro e w' ⟨rfl, q1, q2⟩
    have hoff : Off G w1 w' := (Off.of hW).trans q2 (fun b hb => .inl hb)
    refine ⟨by rw [HE.out.wiE], q1.mono (fun b hb => ?_) (fun b hb => ?_), hoff, HSS.out w' ((hoff.block _ (by omega) hoG).trans ho1) ((hoff.block _ (by omega) hpG).trans hp1)⟩
    · rcases hb with hb | hb
      · exact .inl hb
      · exact .inr ⟨by have := hW.size; omega, hb.2⟩
    · rcases hb with hb | hb
      · have := HY1.out.lt b hb; have := hoff.size; omega
      · exact hb.2
  have Q1 : Hid ((wiE p.sx pe bt ln) ≠ 0 → n = 0) := q1
  have Q2 : Hid (Sim st' (wiS p.sx pe bt ln)) := q2
  have Q3 : Hid (X.Inv w1 p.x st' F') := q3
  have Q4 : Hid (∀ b, F' b → F b ∨ w.heap.size ≤ b) := q4
  have Q5 : Hid (Off F W0 w1) := q5
  have Q8 : Hid (WRow w1 w.heap.size (.slice a wr.length c) wr) := q8
  have Q10 : Hid (∀ b, F' b → (Value.slice a wr.length c).ownBlock ≠ some b) := q10
  have HNN : Hid (n = wr.length) := hnn
  have Q9 : Hid ((wiE p.sx pe bt ln) = 0 → WrOK (tabS p.sy) (tabS (wiS p.sy pe bt ln)) wr) := fun he => by
    have e1 := HE.out.tabS (X.ok HX.out).tel
    have e2 := q2.tabS (X.ok q3).tel
    have e3 := (q2.trans (HE.out.wiS pe bt ln)).tabS (X.ok q3).tel
    rw [← e1, ← e3, e2]
    exact q9 he
  have Q11 : Hid ((wiE p.sx pe bt ln) ≠ 0 → wiS p.sy pe bt ln = p.sy) := fun he => by
    exact if_neg (by rw [← HE.out.wiE]; exact he)
  clear q1 q2 q3 q4 q5 q8 q9 q10 hnn HXC
  clear x2 x3 x4 x5 x6 x7 x8 hS1
  have HE2 : Hid (Sim (wiS p.sx pe bt ln) (wiS p.sy pe bt ln)) := HE.out.wiS pe bt ln
  generalize (wiE p.sx pe bt ln) = er at *
  generalize (wiS p.sx pe bt ln) = tx1 at *
  generalize (wiS p.sy pe bt ln) = ty1 at *
  go_upto_region 8 with fail
  obtain ⟨x2, x3, x4, x5, x6, x7, x8⟩ := HSS.out w1 ho1 hp1
  go_region_held3 (fun w' => w'.cell? ⟨w.heap.size, 2, none⟩ = some (.int .i64 pe) ∧ w'.cell? ⟨w.heap.size, 3, none⟩ = some (.int .i64 nn) ∧ w'.cell? ⟨w.heap.size, 4, none⟩ = some (.string tx) ∧ w'.cell? ⟨w.heap.size, 5, none⟩ = some (.int .i64 bt) ∧ w'.cell? ⟨w.heap.size, 6, none⟩ = some (.int .i64 ln) ∧ w'.cell? ⟨p.pb, 0, none⟩ = some (.pointer (some ⟨p.x, 0, none⟩)) ∧ w'.cell? ⟨p.pb, 1, none⟩ = some (.pointer (some ⟨p.y, 0, none⟩)))
    (first | assumption | exact HSS.out _ ho1 hp1)
    (first | (go_at_call 26; refine (HYC.out _ ?_).mono ?_; (exact (Below.refl _ _).drew); rintro e w2 ⟨rfl, q6, q7, hS2⟩))
  have ho2 : w2.heap[w.heap.size]? = some (.cells #[.int .i64 3, .int .i64 gt, .int .i64 pe, .int .i64 nn, .string tx, .int .i64 bt, .int .i64 ln, .int .i64 hd.ds, .int .i64 hd.sr, .int .i64 hd.pr, .int .i64 hd.po, .int .i64 hd.fl, .bool hd.la, .int .i64 cp, .int .i64 bu, .int .i64 n0, .int .i64 n1, .int .i64 n2, .int .i64 n3] 43 (0, 0)) := (q7.block _ (by omega) hoG).trans (ho1.trans HO0.out)
  have y7 := cell_of_row w2 w.heap.size 7 _ _ _ ho2
  have y8 := cell_of_row w2 w.heap.size 8 _ _ _ ho2
  have y9 := cell_of_row w2 w.heap.size 9 _ _ _ ho2
  have y10 := cell_of_row w2 w.heap.size 10 _ _ _ ho2
  have y11 := cell_of_row w2 w.heap.size 11 _ _ _ ho2
  have y12 := cell_of_row w2 w.heap.size 12 _ _ _ ho2
  have hz2 := q7.size
  have HALL : Hid (∀ b, b < w.heap.size → ¬ F b → ¬ G b → w2.heap[b]? = w.heap[b]?) := fun b hb hf hg => (q7.block b (by omega) hg).trans ((Q5.out.block b (by omega) hf).trans (hb0.block b hb))
  have Q6 : Hid (RGate w2 p.y ty1 (Fr G w1 w2)) := q6
  have Q7 : Hid (Off G w1 w2) := q7
  have HLF : Hid (∀ b, lab b = 7 → ¬ F b ∧ ¬ G b) := fun b h7 => ⟨fun hf => by have := HS.out b hf; omega, fun hg => by have := HSG.out b hg; omega⟩
  have e := HPE.out
  have z2 := HY.out
  have z3 := Q3.out
  have z4 := Q6.out
  rw [e] at z2 z3 z4
  have Z2 : Hid (RGate w ps[i].y ps[i].sy G) := z2
  have Z3 : Hid (X.Inv w1 ps[i].x st' F') := z3
  have Z4 : Hid (RGate w2 ps[i].y ty1 (Fr G w1 w2)) := z4
  have HO1 : Hid (Off F w w1) := (Off.of hb0).trans Q5.out (fun b hb => .inl hb)
  clear hS2 q6 q7 x2 x3 x4 x5 x6 x7 x8 HYC ho2 e z2 z3 z4
  by_cases he : er = 0
  · subst he
    have hn0 := HNN.out
    subst hn0
    have hvb : ∀ b, (Value.slice a wr.length c).ownBlock = some b → w.heap.size ≤ b ∧ b < w1.heap.size := fun b hb => World.ownsRow.lt Q8.out b hb
    have hP2 : w2.heap[p.pb]? = some (.cells #[ptrV p.x, ptrV p.y, .slice to (tabS p.sy).length tc] 55 (0, 0)) := (HALL.out _ hpb hpF hpG).trans (by rw [HPC.out, HTV.out])
    have hW2 := (HALL.out _ hwl hwF hwG).trans HW.out
    have hrow2 := ownsRow_same (w' := w2) HWV.out.row (fun b hb => by
      have h7 := HLF.out b (HWV.out.rl b hb).1
      exact HALL.out b (World.ownsRow.lt HWV.out.row b hb).2 h7.1 h7.2)
    have hO2 : ERow w2 0 (.slice to (tabS p.sy).length tc) (tabS p.sy) := by
      have ht := HTA.out
      have h5 := ht.1.same (w' := w2) (fun b hb => by
        have h7 := HLF.out b (ht.2 b hb).1
        exact HALL.out b (World.ownsRow.lt ht.1 b hb).2 h7.1 h7.2)
      rw [HTV.out] at h5
      exact h5
    have hw2 : WRow w2 w.heap.size (.slice a wr.length c) wr := Q8.out.same (fun b hb => Q7.out.block b (hvb b hb).2 (fun hg => by have := HY.out.lt b hg; have := hvb b hb; omega))
    have hne : p.pb ≠ wl := fun e => by have := HPL.out; have := HL0.out; rw [e] at *; omega
    have hch := changedT_any wl p.pb p.y (ptrV p.x) ty1 (Fr G w1 w2) (tabS p.sy) to tc 0 a c w.heap.size wr hd w2 _ wo wc ws HOD.out hP2 hW2 rfl rfl hrow2 Q6.out hO2 hw2 (Q9.out rfl) hne (fun b hb => ⟨fun e => by have := hvb b hb; omega, fun e => by have := hvb b hb; omega⟩) hkw (fun b hb => ⟨fun e => by have := (HWV.out.rl b hb).1; have := HL0.out; rw [e] at *; omega, fun e => by have := (HWV.out.rl b hb).1; have := HPL.out; rw [e] at *; omega, fun e => by have := hvb b e; have := (World.ownsRow.lt HWV.out.row b hb).2; omega⟩)
    unfold ptrV hdV at hch
    have HCH := hid_calls hch
    have HW2 : Hid (w2.heap[wl]? = some (.cells #[.slice ga ps.length gc, .bool true, .slice so vals.length sc, .slice eo es.length ec, .slice wo ws.length wc] 31 (0, 0))) := hW2
    clear hch hP2 hW2 hrow2 hO2 hw2
    go_wp2_with (go_at_call 24; refine HCH.out.mono ?_; rintro e w9 ⟨rfl, q⟩)
    go_ret
    refine ⟨rfl, ?_⟩
    rw [HK.out]
    obtain ⟨nv, w3, w4, v', so', sc', b3, n3, s4, v4, e4, r4, n4, o4, rfl⟩ := q
    rw [HPE.out]
    exact LD.changed HL.out HES.out HWV.out HTB.out HI.out HS.out Z2.out HSG.out Z3.out Q4.out Q10.out hvb HO1.out Z4.out Q7.out (Q2.out.trans HE2.out) b3 n3 s4 v4 (fun cs hcs => by
      have hx := (b3.block wl (by omega)).trans HW2.out
      rw [hx] at hcs
      simp only [Option.some.injEq, Obj.cells.injEq] at hcs
      rw [← hcs.1]
      exact e4) r4 n4 o4
  · have hn0 := Q1.out he
    have hch := changedE_any wl p.pb a wr.length c er hd w2 he (HNN.out.symm.trans hn0)
    unfold ptrV hdV at hch
    have HCH := hid_calls hch
    have hsy := Q11.out he
    have HSY : Hid (ty1 = ps[i].sy) := hsy.trans (congrArg Pr.sy HPE.out)
    clear hch hsy he
    go_wp2_with (go_at_call 24; refine HCH.out.mono ?_; rintro e w3 ⟨rfl, hb3⟩)
    go_ret
    refine ⟨rfl, ?_⟩
    rw [HK.out]
    exact LD.refused HH.out HI.out HS.out Z2.out HSG.out Z3.out Q4.out HO1.out Z4.out Q7.out (Q2.out.trans HE2.out) hb3 HSY.out
end Go.Proofs.YtgkiknfpcbcnnaaGreat
namespace Go.Proofs.YtgkiknfpcbcnnaaGreat
open Go.RowKit
set_option maxRecDepth 20000
set_option maxHeartbeats 3200000 in
theorem ont_add (X : XGate) {w : World} {wl : Nat} {lab l2 : Nat → Nat} {ps : List Pr} {vals es ws : List Value} (h : LD X.toXBase w wl lab l2 ps vals es ws) (i : Nat) (hi : i < ps.length) (hkw : (ws.length + 1) * 24 ≤ 140737488355328) (o : OpS) (ho : OpOK o) (hod : Hd64 o.hd) (hkd : o.kd = 4) :
    Calls Tryz.prog 14 #[ptrV wl, ptrV ps[i].pb, opV o] w fun e w' => e = .returned (.bool true) ∧ DPost X.toXBase w wl lab l2 ps vals es ws 0 w' := by
  obtain ⟨kd, gt, pe, nn, tx, bt, ln, hd, cf⟩ := o
  obtain ⟨ogt, ope, onn, obt, oln, otx⟩ := ho
  simp only [] at hkd ogt ope onn obt oln otx hod
  have HOD : Hid (Hd64 hd) := hod
  clear hod
  subst hkd
  obtain ⟨cp, bu, n0, n1, n2, n3⟩ := cf
  obtain ⟨eo, ec, wo, wc, hL, hE, hV⟩ := h.ex
  obtain ⟨ga, gc, so, sc, h1, h2, h3⟩ := hL.ex
  have HH : Hid (LD X.toXBase w wl lab l2 ps vals es ws) := h
  have HL : Hid (LC X.toXBase w wl lab true (.slice eo es.length ec) (.slice wo ws.length wc) ps vals) := hL
  have HES : Hid (EsOK w lab l2 eo ec es) := hE
  have HWV : Hid (WssOK w lab l2 wo wc ws) := hV
  have HTB : Hid (TbOK w lab l2 ps) := h.tb
  have HW : Hid (w.heap[wl]? = some (.cells #[.slice ga ps.length gc, .bool true, .slice so vals.length sc, .slice eo es.length ec, .slice wo ws.length wc] 31 (0, 0))) := h1
  obtain ⟨p, hpe⟩ : ∃ p, p = ps[i] := ⟨_, rfl⟩
  have HPE : Hid (p = ps[i]) := hpe
  have hp : PrOK X.toXBase w lab i p := by rw [hpe]; exact h2.pr i hi
  have htb : TbAt w lab l2 i p := by rw [hpe]; exact h.tb i hi
  obtain ⟨to, tc, htv⟩ := ownsRow_shape htb.1
  have HTA : Hid (TbAt w lab l2 i p) := htb
  have HTV : Hid (p.tv = .slice to (tabS p.sy).length tc) := htv
  rw [← hpe]
  clear hpe htb htv
  obtain ⟨F, f1, f2⟩ := hp.gx
  obtain ⟨G, g1, g2⟩ := hp.gy
  have hwl := lt_of_block h1
  have hpb := lt_of_block hp.cell
  have HPL : Hid (lab p.pb = 4 + 5 * i) := hp.lb
  have HL0 : Hid (lab wl = 0) := hL.l0
  have HX : Hid (X.Inv w p.x p.sx F) := f1
  have HY : Hid (RGate w p.y p.sy G) := g1
  have HE : Hid (Sim p.sx p.sy) := hp.sim
  have HS : Hid (∀ b, F b → lab b = 5 + 5 * i) := f2
  have HSG : Hid (∀ b, G b → lab b = 6 + 5 * i) := g2
  have hpF : ¬ F p.pb := fun e => by have := f2 _ e; have := hp.lb; omega
  have hpG : ¬ G p.pb := fun e => by have := g2 _ e; have := hp.lb; omega
  have hwF : ¬ F wl := fun e => by have := f2 _ e; have := hL.l0; omega
  have hwG : ¬ G wl := fun e => by have := g2 _ e; have := hL.l0; omega
  have hoF : ¬ F w.heap.size := fun e => by have := X.lt f1 _ e; omega
  have hoG : ¬ G w.heap.size := fun e => by have := g1.lt _ e; omega
  have HI : Hid (i < ps.length) := hi
  have HPC : Hid (w.heap[p.pb]? = some (.cells #[ptrV p.x, ptrV p.y, p.tv] 55 (0, 0))) := hp.cell
  clear h hL hE hV h1 h2 h3 hp f1 f2 g1 g2
  obtain ⟨W0, hW0⟩ : ∃ W0, W0 = w.alloc (.cells #[.int .i64 4, .int .i64 gt, .int .i64 pe, .int .i64 nn, .string tx, .int .i64 bt, .int .i64 ln, .int .i64 hd.ds, .int .i64 hd.sr, .int .i64 hd.pr, .int .i64 hd.po, .int .i64 hd.fl, .bool hd.la, .int .i64 cp, .int .i64 bu, .int .i64 n0, .int .i64 n1, .int .i64 n2, .int .i64 n3] 43) := ⟨_, rfl⟩
  have HW0 : Hid (W0 = w.alloc (.cells #[.int .i64 4, .int .i64 gt, .int .i64 pe, .int .i64 nn, .string tx, .int .i64 bt, .int .i64 ln, .int .i64 hd.ds, .int .i64 hd.sr, .int .i64 hd.pr, .int .i64 hd.po, .int .i64 hd.fl, .bool hd.la, .int .i64 cp, .int .i64 bu, .int .i64 n0, .int .i64 n1, .int .i64 n2, .int .i64 n3] 43)) := hW0
  have hb0 : Below w.heap.size w W0 := by rw [hW0]; exact below_alloc _ _
  have hO0 : W0.heap[w.heap.size]? = some (.cells #[.int .i64 4, .int .i64 gt, .int .i64 pe, .int .i64 nn, .string tx, .int .i64 bt, .int .i64 ln, .int .i64 hd.ds, .int .i64 hd.sr, .int .i64 hd.pr, .int .i64 hd.po, .int .i64 hd.fl, .bool hd.la, .int .i64 cp, .int .i64 bu, .int .i64 n0, .int .i64 n1, .int .i64 n2, .int .i64 n3] 43 (0, 0)) := by rw [hW0]; exact heap_alloc_new w _
  have hz0 : W0.heap.size = w.heap.size + 1 := by rw [hW0]; simp
  clear hW0
  have HZ0 : Hid (W0.heap.size = w.heap.size + 1) := hz0
  have hoz : w.heap.size < W0.heap.size := by omega
  have hpz : p.pb < W0.heap.size := by omega
  have hwz : wl < W0.heap.size := by omega
  clear hz0
  have hP0 : W0.heap[p.pb]? = some (.cells #[ptrV p.x, ptrV p.y, p.tv] 55 (0, 0)) := (hb0.block _ hpb).trans HPC.out
  have HSS : Hid (∀ w' : World, w'.heap[w.heap.size]? = W0.heap[w.heap.size]? → w'.heap[p.pb]? = W0.heap[p.pb]? → (w'.cell? ⟨w.heap.size, 2, none⟩ = some (.int .i64 pe) ∧ w'.cell? ⟨w.heap.size, 3, none⟩ = some (.int .i64 nn) ∧ w'.cell? ⟨w.heap.size, 4, none⟩ = some (.string tx) ∧ w'.cell? ⟨w.heap.size, 5, none⟩ = some (.int .i64 bt) ∧ w'.cell? ⟨w.heap.size, 6, none⟩ = some (.int .i64 ln) ∧ w'.cell? ⟨p.pb, 0, none⟩ = some (.pointer (some ⟨p.x, 0, none⟩)) ∧ w'.cell? ⟨p.pb, 1, none⟩ = some (.pointer (some ⟨p.y, 0, none⟩)))) := fun w' e1 e2 =>
    ⟨cell_of_row w' w.heap.size 2 _ _ _ (e1.trans hO0), cell_of_row w' w.heap.size 3 _ _ _ (e1.trans hO0), cell_of_row w' w.heap.size 4 _ _ _ (e1.trans hO0), cell_of_row w' w.heap.size 5 _ _ _ (e1.trans hO0), cell_of_row w' w.heap.size 6 _ _ _ (e1.trans hO0), cell_of_row w' p.pb 0 _ _ _ (e2.trans hP0), cell_of_row w' p.pb 1 _ _ _ (e2.trans hP0)⟩
  have HO0 : Hid (W0.heap[w.heap.size]? = some (.cells #[.int .i64 4, .int .i64 gt, .int .i64 pe, .int .i64 nn, .string tx, .int .i64 bt, .int .i64 ln, .int .i64 hd.ds, .int .i64 hd.sr, .int .i64 hd.pr, .int .i64 hd.po, .int .i64 hd.fl, .bool hd.la, .int .i64 cp, .int .i64 bu, .int .i64 n0, .int .i64 n1, .int .i64 n2, .int .i64 n3] 43 (0, 0))) := hO0
  have HXC : Hid (∀ W, Below W0.heap.size W0 W → Calls Tryz.prog 27 #[.pointer (some ⟨p.x, 0, none⟩), .int .i64 pe, .string tx, .int .i64 nn] W fun e w' => ∃ a n c wr F' st', e = .returned (.tuple #[.slice a n c, .int .i64 (adE p.sx pe tx nn)]) ∧ n = wr.length ∧ WRow w' w.heap.size (.slice a wr.length c) wr ∧ ((adE p.sx pe tx nn) = 0 → WrOK (tabS p.sx) (tabS (adS p.sx pe tx nn)) wr) ∧ (∀ b, F' b → (Value.slice a wr.length c).ownBlock ≠ some b) ∧ ((adE p.sx pe tx nn) ≠ 0 → n = 0) ∧ Sim st' (adS p.sx pe tx nn) ∧ X.Inv w' p.x st' F' ∧ (∀ b, F' b → F b ∨ w.heap.size ≤ b) ∧ Off F W0 w' ∧ (w'.cell? ⟨w.heap.size, 2, none⟩ = some (.int .i64 pe) ∧ w'.cell? ⟨w.heap.size, 3, none⟩ = some (.int .i64 nn) ∧ w'.cell? ⟨w.heap.size, 4, none⟩ = some (.string tx) ∧ w'.cell? ⟨w.heap.size, 5, none⟩ = some (.int .i64 bt) ∧ w'.cell? ⟨w.heap.size, 6, none⟩ = some (.int .i64 ln) ∧ w'.cell? ⟨p.pb, 0, none⟩ = some (.pointer (some ⟨p.x, 0, none⟩)) ∧ w'.cell? ⟨p.pb, 1, none⟩ = some (.pointer (some ⟨p.y, 0, none⟩)))) := fun W hW => by
    have hI : X.Inv W p.x p.sx F := X.same HX.out (by have := hW.size; omega) (fun b hb => (hW.block b (by have := X.lt HX.out b hb; omega)).trans (hb0.block b (X.lt HX.out b hb)))
    have hc := X.addW pe tx nn hI ope onn otx
    unfold ptrV at hc
    refine hc.mono ?_
    rintro e w' ⟨a, c, wr, F', st', rfl, q8, q1, q9, q2, q3, q4, q10, q5⟩
    have hoff : Off F W0 w' := (Off.of hW).trans q5 (fun b hb => .inl hb)
    exact ⟨a, wr.length, c, wr, F', st', rfl, rfl, ownsRow_base q8 (by have := hW.size; omega), q9, q10, fun hn => by rw [q1 hn]; rfl, q2, q3, fun b hb => by rcases q4 b hb with hf | hf; exact .inl hf; exact .inr (by have := hW.size; omega), hoff, HSS.out w' (hoff.block _ hoz hoF) (hoff.block _ hpz hpF)⟩
  have HS0 : Hid (W0.cell? ⟨w.heap.size, 2, none⟩ = some (.int .i64 pe) ∧ W0.cell? ⟨w.heap.size, 3, none⟩ = some (.int .i64 nn) ∧ W0.cell? ⟨w.heap.size, 4, none⟩ = some (.string tx) ∧ W0.cell? ⟨w.heap.size, 5, none⟩ = some (.int .i64 bt) ∧ W0.cell? ⟨w.heap.size, 6, none⟩ = some (.int .i64 ln) ∧ W0.cell? ⟨p.pb, 0, none⟩ = some (.pointer (some ⟨p.x, 0, none⟩)) ∧ W0.cell? ⟨p.pb, 1, none⟩ = some (.pointer (some ⟨p.y, 0, none⟩))) := HSS.out W0 rfl rfl
  clear hO0 hP0
  unfold ptrV
  obtain ⟨K, hK⟩ : ∃ K : World → Prop, K = fun w' => DPost X.toXBase w wl lab l2 ps vals es ws 0 w' := ⟨_, rfl⟩
  have HK : Hid (K = fun w' => DPost X.toXBase w wl lab l2 ps vals es ws 0 w') := hK
  suffices hsuff : Calls Tryz.prog 14 #[.pointer (some ⟨wl, 0, none⟩), .pointer (some ⟨p.pb, 0, none⟩), opV ⟨4, gt, pe, nn, tx, bt, ln, hd, ⟨cp, bu, n0, n1, n2, n3⟩⟩] w fun e w' => e = .returned (.bool true) ∧ K w' by
    refine hsuff.mono ?_
    rintro e w' ⟨he, hkk⟩
    rw [hK] at hkk
    exact ⟨he, hkk⟩
  clear hK
  simp only [opV, opL]
  go_enter Tryz.func14, Tryz.ntmps14
  go_upto_region 11 with fail
  rw [← HW0.out]
  obtain ⟨x2, x3, x4, x5, x6, x7, x8⟩ := HS0.out
  go_region_held3 (fun w' => w'.cell? ⟨w.heap.size, 2, none⟩ = some (.int .i64 pe) ∧ w'.cell? ⟨w.heap.size, 3, none⟩ = some (.int .i64 nn) ∧ w'.cell? ⟨w.heap.size, 4, none⟩ = some (.string tx) ∧ w'.cell? ⟨w.heap.size, 5, none⟩ = some (.int .i64 bt) ∧ w'.cell? ⟨w.heap.size, 6, none⟩ = some (.int .i64 ln) ∧ w'.cell? ⟨p.pb, 0, none⟩ = some (.pointer (some ⟨p.x, 0, none⟩)) ∧ w'.cell? ⟨p.pb, 1, none⟩ = some (.pointer (some ⟨p.y, 0, none⟩)))
    (first | assumption | exact HSS.out _ rfl rfl)
    (first | (go_at_call 27; refine (HXC.out _ ?_).mono ?_; (exact (Below.refl _ _).drew); rintro e w1 ⟨a, n, c, wr, F', st', rfl, hnn, q8, q9, q10, q1, q2, q3, q4, q5, hS1⟩))
  have ho1 : w1.heap[w.heap.size]? = W0.heap[w.heap.size]? := q5.block _ hoz hoF
  have hp1 : w1.heap[p.pb]? = W0.heap[p.pb]? := q5.block _ hpz hpF
  have hw1 : w1.heap[wl]? = W0.heap[wl]? := q5.block _ hwz hwF
  have hz1 := q5.size
  have HY1 : Hid (RGate w1 p.y p.sy G) := HY.out.same (by omega) (fun b hb => (q5.block b (by have := HY.out.lt b hb; omega) (fun hf => by have := HS.out b hf; have := HSG.out b hb; omega)).trans (hb0.block b (HY.out.lt b hb)))
  have HYC : Hid (∀ W, Below w1.heap.size w1 W → Calls Tryz.prog 28 #[.pointer (some ⟨p.y, 0, none⟩), .int .i64 pe, .string tx, .int .i64 nn] W fun e w' => e = .returned (.int .i64 (adE p.sx pe tx nn)) ∧ RGate w' p.y (adS p.sy pe tx nn) (Fr G w1 w') ∧ Off G w1 w' ∧ (w'.cell? ⟨w.heap.size, 2, none⟩ = some (.int .i64 pe) ∧ w'.cell? ⟨w.heap.size, 3, none⟩ = some (.int .i64 nn) ∧ w'.cell? ⟨w.heap.size, 4, none⟩ = some (.string tx) ∧ w'.cell? ⟨w.heap.size, 5, none⟩ = some (.int .i64 bt) ∧ w'.cell? ⟨w.heap.size, 6, none⟩ = some (.int .i64 ln) ∧ w'.cell? ⟨p.pb, 0, none⟩ = some (.pointer (some ⟨p.x, 0, none⟩)) ∧ w'.cell? ⟨p.pb, 1, none⟩ = some (.pointer (some ⟨p.y, 0, none⟩)))) := fun W hW => by
    have hR : RGate W p.y p.sy G := HY1.out.same hW.size (fun b hb => hW.block b (HY1.out.lt b hb))
    refine (refAdd_any p.y p.sy G pe tx nn W hR otx).mono ?_
    rintro e w' ⟨rfl, q1, q2⟩
    have hoff : Off G w1 w' := (Off.of hW).trans q2 (fun b hb => .inl hb)
    refine ⟨by rw [HE.out.adE], q1.mono (fun b hb => ?_) (fun b hb => ?_), hoff, HSS.out w' ((hoff.block _ (by omega) hoG).trans ho1) ((hoff.block _ (by omega) hpG).trans hp1)⟩
    · rcases hb with hb | hb
      · exact .inl hb
      · exact .inr ⟨by have := hW.size; omega, hb.2⟩
    · rcases hb with hb | hb
      · have := HY1.out.lt b hb; have := hoff.size; omega
      · exact hb.2
  have Q1 : Hid ((adE p.sx pe tx nn) ≠ 0 → n = 0) := q1
  have Q2 : Hid (Sim st' (adS p.sx pe tx nn)) := q2
  have Q3 : Hid (X.Inv w1 p.x st' F') := q3
  have Q4 : Hid (∀ b, F' b → F b ∨ w.heap.size ≤ b) := q4
  have Q5 : Hid (Off F W0 w1) := q5
  have Q8 : Hid (WRow w1 w.heap.size (.slice a wr.length c) wr) := q8
  have Q10 : Hid (∀ b, F' b → (Value.slice a wr.length c).ownBlock ≠ some b) := q10
  have HNN : Hid (n = wr.length) := hnn
  have Q9 : Hid ((adE p.sx pe tx nn) = 0 → WrOK (tabS p.sy) (tabS (adS p.sy pe tx nn)) wr) := fun he => by
    have e1 := HE.out.tabS (X.ok HX.out).tel
    have e2 := q2.tabS (X.ok q3).tel
    have e3 := (q2.trans (HE.out.adS pe tx nn)).tabS (X.ok q3).tel
    rw [← e1, ← e3, e2]
    exact q9 he
  have Q11 : Hid ((adE p.sx pe tx nn) ≠ 0 → adS p.sy pe tx nn = p.sy) := fun he => by
    exact if_neg (by rw [← HE.out.adE]; exact he)
  clear q1 q2 q3 q4 q5 q8 q9 q10 hnn HXC
  clear x2 x3 x4 x5 x6 x7 x8 hS1
  have HE2 : Hid (Sim (adS p.sx pe tx nn) (adS p.sy pe tx nn)) := HE.out.adS pe tx nn
  generalize (adE p.sx pe tx nn) = er at *
  generalize (adS p.sx pe tx nn) = tx1 at *
  generalize (adS p.sy pe tx nn) = ty1 at *
  go_upto_region 12 with fail
  obtain ⟨x2, x3, x4, x5, x6, x7, x8⟩ := HSS.out w1 ho1 hp1
  go_region_held3 (fun w' => w'.cell? ⟨w.heap.size, 2, none⟩ = some (.int .i64 pe) ∧ w'.cell? ⟨w.heap.size, 3, none⟩ = some (.int .i64 nn) ∧ w'.cell? ⟨w.heap.size, 4, none⟩ = some (.string tx) ∧ w'.cell? ⟨w.heap.size, 5, none⟩ = some (.int .i64 bt) ∧ w'.cell? ⟨w.heap.size, 6, none⟩ = some (.int .i64 ln) ∧ w'.cell? ⟨p.pb, 0, none⟩ = some (.pointer (some ⟨p.x, 0, none⟩)) ∧ w'.cell? ⟨p.pb, 1, none⟩ = some (.pointer (some ⟨p.y, 0, none⟩)))
    (first | assumption | exact HSS.out _ ho1 hp1)
    (first | (go_at_call 28; refine (HYC.out _ ?_).mono ?_; (exact (Below.refl _ _).drew); rintro e w2 ⟨rfl, q6, q7, hS2⟩))
  have ho2 : w2.heap[w.heap.size]? = some (.cells #[.int .i64 4, .int .i64 gt, .int .i64 pe, .int .i64 nn, .string tx, .int .i64 bt, .int .i64 ln, .int .i64 hd.ds, .int .i64 hd.sr, .int .i64 hd.pr, .int .i64 hd.po, .int .i64 hd.fl, .bool hd.la, .int .i64 cp, .int .i64 bu, .int .i64 n0, .int .i64 n1, .int .i64 n2, .int .i64 n3] 43 (0, 0)) := (q7.block _ (by omega) hoG).trans (ho1.trans HO0.out)
  have y7 := cell_of_row w2 w.heap.size 7 _ _ _ ho2
  have y8 := cell_of_row w2 w.heap.size 8 _ _ _ ho2
  have y9 := cell_of_row w2 w.heap.size 9 _ _ _ ho2
  have y10 := cell_of_row w2 w.heap.size 10 _ _ _ ho2
  have y11 := cell_of_row w2 w.heap.size 11 _ _ _ ho2
  have y12 := cell_of_row w2 w.heap.size 12 _ _ _ ho2
  have hz2 := q7.size
  have HALL : Hid (∀ b, b < w.heap.size → ¬ F b → ¬ G b → w2.heap[b]? = w.heap[b]?) := fun b hb hf hg => (q7.block b (by omega) hg).trans ((Q5.out.block b (by omega) hf).trans (hb0.block b hb))
  have Q6 : Hid (RGate w2 p.y ty1 (Fr G w1 w2)) := q6
  have Q7 : Hid (Off G w1 w2) := q7
  have HLF : Hid (∀ b, lab b = 7 → ¬ F b ∧ ¬ G b) := fun b h7 => ⟨fun hf => by have := HS.out b hf; omega, fun hg => by have := HSG.out b hg; omega⟩
  have e := HPE.out
  have z2 := HY.out
  have z3 := Q3.out
  have z4 := Q6.out
  rw [e] at z2 z3 z4
  have Z2 : Hid (RGate w ps[i].y ps[i].sy G) := z2
  have Z3 : Hid (X.Inv w1 ps[i].x st' F') := z3
  have Z4 : Hid (RGate w2 ps[i].y ty1 (Fr G w1 w2)) := z4
  have HO1 : Hid (Off F w w1) := (Off.of hb0).trans Q5.out (fun b hb => .inl hb)
  clear hS2 q6 q7 x2 x3 x4 x5 x6 x7 x8 HYC ho2 e z2 z3 z4
  by_cases he : er = 0
  · subst he
    have hn0 := HNN.out
    subst hn0
    have hvb : ∀ b, (Value.slice a wr.length c).ownBlock = some b → w.heap.size ≤ b ∧ b < w1.heap.size := fun b hb => World.ownsRow.lt Q8.out b hb
    have hP2 : w2.heap[p.pb]? = some (.cells #[ptrV p.x, ptrV p.y, .slice to (tabS p.sy).length tc] 55 (0, 0)) := (HALL.out _ hpb hpF hpG).trans (by rw [HPC.out, HTV.out])
    have hW2 := (HALL.out _ hwl hwF hwG).trans HW.out
    have hrow2 := ownsRow_same (w' := w2) HWV.out.row (fun b hb => by
      have h7 := HLF.out b (HWV.out.rl b hb).1
      exact HALL.out b (World.ownsRow.lt HWV.out.row b hb).2 h7.1 h7.2)
    have hO2 : ERow w2 0 (.slice to (tabS p.sy).length tc) (tabS p.sy) := by
      have ht := HTA.out
      have h5 := ht.1.same (w' := w2) (fun b hb => by
        have h7 := HLF.out b (ht.2 b hb).1
        exact HALL.out b (World.ownsRow.lt ht.1 b hb).2 h7.1 h7.2)
      rw [HTV.out] at h5
      exact h5
    have hw2 : WRow w2 w.heap.size (.slice a wr.length c) wr := Q8.out.same (fun b hb => Q7.out.block b (hvb b hb).2 (fun hg => by have := HY.out.lt b hg; have := hvb b hb; omega))
    have hne : p.pb ≠ wl := fun e => by have := HPL.out; have := HL0.out; rw [e] at *; omega
    have hch := changedT_any wl p.pb p.y (ptrV p.x) ty1 (Fr G w1 w2) (tabS p.sy) to tc 0 a c w.heap.size wr hd w2 _ wo wc ws HOD.out hP2 hW2 rfl rfl hrow2 Q6.out hO2 hw2 (Q9.out rfl) hne (fun b hb => ⟨fun e => by have := hvb b hb; omega, fun e => by have := hvb b hb; omega⟩) hkw (fun b hb => ⟨fun e => by have := (HWV.out.rl b hb).1; have := HL0.out; rw [e] at *; omega, fun e => by have := (HWV.out.rl b hb).1; have := HPL.out; rw [e] at *; omega, fun e => by have := hvb b e; have := (World.ownsRow.lt HWV.out.row b hb).2; omega⟩)
    unfold ptrV hdV at hch
    have HCH := hid_calls hch
    have HW2 : Hid (w2.heap[wl]? = some (.cells #[.slice ga ps.length gc, .bool true, .slice so vals.length sc, .slice eo es.length ec, .slice wo ws.length wc] 31 (0, 0))) := hW2
    clear hch hP2 hW2 hrow2 hO2 hw2
    go_wp2_with (go_at_call 24; refine HCH.out.mono ?_; rintro e w9 ⟨rfl, q⟩)
    go_ret
    refine ⟨rfl, ?_⟩
    rw [HK.out]
    obtain ⟨nv, w3, w4, v', so', sc', b3, n3, s4, v4, e4, r4, n4, o4, rfl⟩ := q
    rw [HPE.out]
    exact LD.changed HL.out HES.out HWV.out HTB.out HI.out HS.out Z2.out HSG.out Z3.out Q4.out Q10.out hvb HO1.out Z4.out Q7.out (Q2.out.trans HE2.out) b3 n3 s4 v4 (fun cs hcs => by
      have hx := (b3.block wl (by omega)).trans HW2.out
      rw [hx] at hcs
      simp only [Option.some.injEq, Obj.cells.injEq] at hcs
      rw [← hcs.1]
      exact e4) r4 n4 o4
  · have hn0 := Q1.out he
    have hch := changedE_any wl p.pb a wr.length c er hd w2 he (HNN.out.symm.trans hn0)
    unfold ptrV hdV at hch
    have HCH := hid_calls hch
    have hsy := Q11.out he
    have HSY : Hid (ty1 = ps[i].sy) := hsy.trans (congrArg Pr.sy HPE.out)
    clear hch hsy he
    go_wp2_with (go_at_call 24; refine HCH.out.mono ?_; rintro e w3 ⟨rfl, hb3⟩)
    go_ret
    refine ⟨rfl, ?_⟩
    rw [HK.out]
    exact LD.refused HH.out HI.out HS.out Z2.out HSG.out Z3.out Q4.out HO1.out Z4.out Q7.out (Q2.out.trans HE2.out) hb3 HSY.out
end Go.Proofs.YtgkiknfpcbcnnaaGreat
