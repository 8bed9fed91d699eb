import Derived.Test.YtgkiknfpcbcnnaaGreatSba
import Derived.Test.YtgkiknfpcbcnnaaGreatTec
import Derived.Deep.RegionHeld3
import Derived.Deep.Cut
namespace Go.Proofs.YtgkiknfpcbcnnaaGreat
open Go.RowKit
set_option maxRecDepth 20000
set_option maxHeartbeats 3200000 in
theorem ont_remove (X : XGate) {w : World} {wl : Nat} {lab l2 : Nat → Nat} {ps : List Pr} {vals es ws : List Value} (h : LD X.toXBase w wl lab l2 ps vals es ws) (i : Nat) (hi : i < ps.length) (hkw : (ws.length + 1) * 24 ≤ 140737488355328) (o : OpS) (ho : OpOK o) (hod : Hd64 o.hd) (hkd : o.kd = 5) :
    Calls Tryz.prog 14 #[ptrV wl, ptrV ps[i].pb, opV o] w fun e w' => e = .returned (.bool true) ∧ DPost X.toXBase w wl lab l2 ps vals es ws 0 w' := by
  obtain ⟨kd, gt, pe, nn, tx, bt, ln, hd, cf⟩ := o
  obtain ⟨ogt, ope, onn, obt, oln, otx⟩ := ho
  simp only [] at hkd ogt ope onn obt oln otx hod
  have HOD : Hid (Hd64 hd) := hod
  clear hod
  subst hkd
  obtain ⟨cp, bu, n0, n1, n2, n3⟩ := cf
  obtain ⟨eo, ec, wo, wc, hL, hE, hV⟩ := h.ex
  obtain ⟨ga, gc, so, sc, h1, h2, h3⟩ := hL.ex
  have HH : Hid (LD X.toXBase w wl lab l2 ps vals es ws) := h
  have HL : Hid (LC X.toXBase w wl lab true (.slice eo es.length ec) (.slice wo ws.length wc) ps vals) := hL
  have HES : Hid (EsOK w lab l2 eo ec es) := hE
  have HWV : Hid (WssOK w lab l2 wo wc ws) := hV
  have HTB : Hid (TbOK w lab l2 ps) := h.tb
  have HW : Hid (w.heap[wl]? = some (.cells #[.slice ga ps.length gc, .bool true, .slice so vals.length sc, .slice eo es.length ec, .slice wo ws.length wc] 31 (0, 0))) := h1
  obtain ⟨p, hpe⟩ : ∃ p, p = ps[i] := ⟨_, rfl⟩
  have HPE : Hid (p = ps[i]) := hpe
  have hp : PrOK X.toXBase w lab i p := by rw [hpe]; exact h2.pr i hi
  have htb : TbAt w lab l2 i p := by rw [hpe]; exact h.tb i hi
  obtain ⟨to, tc, htv⟩ := ownsRow_shape htb.1
  have HTA : Hid (TbAt w lab l2 i p) := htb
  have HTV : Hid (p.tv = .slice to (tabS p.sy).length tc) := htv
  rw [← hpe]
  clear hpe htb htv
  obtain ⟨F, f1, f2⟩ := hp.gx
  obtain ⟨G, g1, g2⟩ := hp.gy
  have hwl := lt_of_block h1
  have hpb := lt_of_block hp.cell
  have HPL : Hid (lab p.pb = 4 + 5 * i) := hp.lb
  have HL0 : Hid (lab wl = 0) := hL.l0
  have HX : Hid (X.Inv w p.x p.sx F) := f1
  have HY : Hid (RGate w p.y p.sy G) := g1
  have HE : Hid (Sim p.sx p.sy) := hp.sim
  have HS : Hid (∀ b, F b → lab b = 5 + 5 * i) := f2
  have HSG : Hid (∀ b, G b → lab b = 6 + 5 * i) := g2
  have hpF : ¬ F p.pb := fun e => by have := f2 _ e; have := hp.lb; omega
  have hpG : ¬ G p.pb := fun e => by have := g2 _ e; have := hp.lb; omega
  have hwF : ¬ F wl := fun e => by have := f2 _ e; have := hL.l0; omega
  have hwG : ¬ G wl := fun e => by have := g2 _ e; have := hL.l0; omega
  have hoF : ¬ F w.heap.size := fun e => by have := X.lt f1 _ e; omega
  have hoG : ¬ G w.heap.size := fun e => by have := g1.lt _ e; omega
  have HI : Hid (i < ps.length) := hi
  have HPC : Hid (w.heap[p.pb]? = some (.cells #[ptrV p.x, ptrV p.y, p.tv] 55 (0, 0))) := hp.cell
  clear h hL hE hV h1 h2 h3 hp f1 f2 g1 g2
  obtain ⟨W0, hW0⟩ : ∃ W0, W0 = w.alloc (.cells #[.int .i64 5, .int .i64 gt, .int .i64 pe, .int .i64 nn, .string tx, .int .i64 bt, .int .i64 ln, .int .i64 hd.ds, .int .i64 hd.sr, .int .i64 hd.pr, .int .i64 hd.po, .int .i64 hd.fl, .bool hd.la, .int .i64 cp, .int .i64 bu, .int .i64 n0, .int .i64 n1, .int .i64 n2, .int .i64 n3] 43) := ⟨_, rfl⟩
  have HW0 : Hid (W0 = w.alloc (.cells #[.int .i64 5, .int .i64 gt, .int .i64 pe, .int .i64 nn, .string tx, .int .i64 bt, .int .i64 ln, .int .i64 hd.ds, .int .i64 hd.sr, .int .i64 hd.pr, .int .i64 hd.po, .int .i64 hd.fl, .bool hd.la, .int .i64 cp, .int .i64 bu, .int .i64 n0, .int .i64 n1, .int .i64 n2, .int .i64 n3] 43)) := hW0
  have hb0 : Below w.heap.size w W0 := by rw [hW0]; exact below_alloc _ _
  have hO0 : W0.heap[w.heap.size]? = some (.cells #[.int .i64 5, .int .i64 gt, .int .i64 pe, .int .i64 nn, .string tx, .int .i64 bt, .int .i64 ln, .int .i64 hd.ds, .int .i64 hd.sr, .int .i64 hd.pr, .int .i64 hd.po, .int .i64 hd.fl, .bool hd.la, .int .i64 cp, .int .i64 bu, .int .i64 n0, .int .i64 n1, .int .i64 n2, .int .i64 n3] 43 (0, 0)) := by rw [hW0]; exact heap_alloc_new w _
  have hz0 : W0.heap.size = w.heap.size + 1 := by rw [hW0]; simp
  clear hW0
  have HZ0 : Hid (W0.heap.size = w.heap.size + 1) := hz0
  have hoz : w.heap.size < W0.heap.size := by omega
  have hpz : p.pb < W0.heap.size := by omega
  have hwz : wl < W0.heap.size := by omega
  clear hz0
  have hP0 : W0.heap[p.pb]? = some (.cells #[ptrV p.x, ptrV p.y, p.tv] 55 (0, 0)) := (hb0.block _ hpb).trans HPC.out
  have HSS : Hid (∀ w' : World, w'.heap[w.heap.size]? = W0.heap[w.heap.size]? → w'.heap[p.pb]? = W0.heap[p.pb]? → (w'.cell? ⟨w.heap.size, 2, none⟩ = some (.int .i64 pe) ∧ w'.cell? ⟨w.heap.size, 3, none⟩ = some (.int .i64 nn) ∧ w'.cell? ⟨w.heap.size, 4, none⟩ = some (.string tx) ∧ w'.cell? ⟨w.heap.size, 5, none⟩ = some (.int .i64 bt) ∧ w'.cell? ⟨w.heap.size, 6, none⟩ = some (.int .i64 ln) ∧ w'.cell? ⟨p.pb, 0, none⟩ = some (.pointer (some ⟨p.x, 0, none⟩)) ∧ w'.cell? ⟨p.pb, 1, none⟩ = some (.pointer (some ⟨p.y, 0, none⟩)))) := fun w' e1 e2 =>
    ⟨cell_of_row w' w.heap.size 2 _ _ _ (e1.trans hO0), cell_of_row w' w.heap.size 3 _ _ _ (e1.trans hO0), cell_of_row w' w.heap.size 4 _ _ _ (e1.trans hO0), cell_of_row w' w.heap.size 5 _ _ _ (e1.trans hO0), cell_of_row w' w.heap.size 6 _ _ _ (e1.trans hO0), cell_of_row w' p.pb 0 _ _ _ (e2.trans hP0), cell_of_row w' p.pb 1 _ _ _ (e2.trans hP0)⟩
  have HO0 : Hid (W0.heap[w.heap.size]? = some (.cells #[.int .i64 5, .int .i64 gt, .int .i64 pe, .int .i64 nn, .string tx, .int .i64 bt, .int .i64 ln, .int .i64 hd.ds, .int .i64 hd.sr, .int .i64 hd.pr, .int .i64 hd.po, .int .i64 hd.fl, .bool hd.la, .int .i64 cp, .int .i64 bu, .int .i64 n0, .int .i64 n1, .int .i64 n2, .int .i64 n3] 43 (0, 0))) := hO0
  have HXC : Hid (∀ W, Below W0.heap.size W0 W → Calls Tryz.prog 29 #[.pointer (some ⟨p.x, 0, none⟩), .int .i64 pe, .string tx] W fun e w' => ∃ a n c wr F' st', e = .returned (.tuple #[.slice a n c, .int .i64 (reE p.sx pe tx)]) ∧ n = wr.length ∧ WRow w' w.heap.size (.slice a wr.length c) wr ∧ ((reE p.sx pe tx) = 0 → WrOK (tabS p.sx) (tabS (reS p.sx pe tx)) wr) ∧ (∀ b, F' b → (Value.slice a wr.length c).ownBlock ≠ some b) ∧ ((reE p.sx pe tx) ≠ 0 → n = 0) ∧ Sim st' (reS p.sx pe tx) ∧ X.Inv w' p.x st' F' ∧ (∀ b, F' b → F b ∨ w.heap.size ≤ b) ∧ Off F W0 w' ∧ (w'.cell? ⟨w.heap.size, 2, none⟩ = some (.int .i64 pe) ∧ w'.cell? ⟨w.heap.size, 3, none⟩ = some (.int .i64 nn) ∧ w'.cell? ⟨w.heap.size, 4, none⟩ = some (.string tx) ∧ w'.cell? ⟨w.heap.size, 5, none⟩ = some (.int .i64 bt) ∧ w'.cell? ⟨w.heap.size, 6, none⟩ = some (.int .i64 ln) ∧ w'.cell? ⟨p.pb, 0, none⟩ = some (.pointer (some ⟨p.x, 0, none⟩)) ∧ w'.cell? ⟨p.pb, 1, none⟩ = some (.pointer (some ⟨p.y, 0, none⟩)))) := fun W hW => by
    have hI : X.Inv W p.x p.sx F := X.same HX.out (by have := hW.size; omega) (fun b hb => (hW.block b (by have := X.lt HX.out b hb; omega)).trans (hb0.block b (X.lt HX.out b hb)))
    have hc := X.removeW pe tx hI ope otx
    unfold ptrV at hc
    refine hc.mono ?_
    rintro e w' ⟨a, c, wr, F', st', rfl, q8, q1, q9, q2, q3, q4, q10, q5⟩
    have hoff : Off F W0 w' := (Off.of hW).trans q5 (fun b hb => .inl hb)
    exact ⟨a, wr.length, c, wr, F', st', rfl, rfl, ownsRow_base q8 (by have := hW.size; omega), q9, q10, fun hn => by rw [q1 hn]; rfl, q2, q3, fun b hb => by rcases q4 b hb with hf | hf; exact .inl hf; exact .inr (by have := hW.size; omega), hoff, HSS.out w' (hoff.block _ hoz hoF) (hoff.block _ hpz hpF)⟩
  have HS0 : Hid (W0.cell? ⟨w.heap.size, 2, none⟩ = some (.int .i64 pe) ∧ W0.cell? ⟨w.heap.size, 3, none⟩ = some (.int .i64 nn) ∧ W0.cell? ⟨w.heap.size, 4, none⟩ = some (.string tx) ∧ W0.cell? ⟨w.heap.size, 5, none⟩ = some (.int .i64 bt) ∧ W0.cell? ⟨w.heap.size, 6, none⟩ = some (.int .i64 ln) ∧ W0.cell? ⟨p.pb, 0, none⟩ = some (.pointer (some ⟨p.x, 0, none⟩)) ∧ W0.cell? ⟨p.pb, 1, none⟩ = some (.pointer (some ⟨p.y, 0, none⟩))) := HSS.out W0 rfl rfl
  clear hO0 hP0
  unfold ptrV
  obtain ⟨K, hK⟩ : ∃ K : World → Prop, K = fun w' => DPost X.toXBase w wl lab l2 ps vals es ws 0 w' := ⟨_, rfl⟩
  have HK : Hid (K = fun w' => DPost X.toXBase w wl lab l2 ps vals es ws 0 w') := hK
  suffices hsuff : Calls Tryz.prog 14 #[.pointer (some ⟨wl, 0, none⟩), .pointer (some ⟨p.pb, 0, none⟩), opV ⟨5, gt, pe, nn, tx, bt, ln, hd, ⟨cp, bu, n0, n1, n2, n3⟩⟩] w fun e w' => e = .returned (.bool true) ∧ K w' by
    refine hsuff.mono ?_
    rintro e w' ⟨he, hkk⟩
    rw [hK] at hkk
    exact ⟨he, hkk⟩
  clear hK
  simp only [opV, opL]
  go_enter Tryz.func14, Tryz.ntmps14
  go_upto_region 15 with fail
  rw [← HW0.out]
  obtain ⟨x2, x3, x4, x5, x6, x7, x8⟩ := HS0.out
  go_region_held3 (fun w' => w'.cell? ⟨w.heap.size, 2, none⟩ = some (.int .i64 pe) ∧ w'.cell? ⟨w.heap.size, 3, none⟩ = some (.int .i64 nn) ∧ w'.cell? ⟨w.heap.size, 4, none⟩ = some (.string tx) ∧ w'.cell? ⟨w.heap.size, 5, none⟩ = some (.int .i64 bt) ∧ w'.cell? ⟨w.heap.size, 6, none⟩ = some (.int .i64 ln) ∧ w'.cell? ⟨p.pb, 0, none⟩ = some (.pointer (some ⟨p.x, 0, none⟩)) ∧ w'.cell? ⟨p.pb, 1, none⟩ = some (.pointer (some ⟨p.y, 0, none⟩)))
    (first | assumption | exact HSS.out _ rfl rfl)
    (first | (go_at_call 29; refine (HXC.out _ ?_).mono ?_; (exact (Below.refl _ _).drew); rintro e w1 ⟨a, n, c, wr, F', st', rfl, hnn, q8, q9, q10, q1, q2, q3, q4, q5, hS1⟩))
  have ho1 : w1.heap[w.heap.size]? = W0.heap[w.heap.size]? := q5.block _ hoz hoF
  have hp1 : w1.heap[p.pb]? = W0.heap[p.pb]? := q5.block _ hpz hpF
  have hw1 : w1.heap[wl]? = W0.heap[wl]? := q5.block _ hwz hwF
  have hz1 := q5.size
  have HY1 : Hid (RGate w1 p.y p.sy G) := HY.out.same (by omega) (fun b hb => (q5.block b (by have := HY.out.lt b hb; omega) (fun hf => by have := HS.out b hf; have := HSG.out b hb; omega)).trans (hb0.block b (HY.out.lt b hb)))
  have HYC : Hid (∀ W, Below w1.heap.size w1 W → Calls Tryz.prog 30 #[.pointer (some ⟨p.y, 0, none⟩), .int .i64 pe, .string tx] W fun e w' => e = .returned (.int .i64 (reE p.sx pe tx)) ∧ RGate w' p.y (reS p.sy pe tx) (Fr G w1 w') ∧ Off G w1 w' ∧ (w'.cell? ⟨w.heap.size, 2, none⟩ = some (.int .i64 pe) ∧ w'.cell? ⟨w.heap.size, 3, none⟩ = some (.int .i64 nn) ∧ w'.cell? ⟨w.heap.size, 4, none⟩ = some (.string tx) ∧ w'.cell? ⟨w.heap.size, 5, none⟩ = some (.int .i64 bt) ∧ w'.cell? ⟨w.heap.size, 6, none⟩ = some (.int .i64 ln) ∧ w'.cell? ⟨p.pb, 0, none⟩ = some (.pointer (some ⟨p.x, 0, none⟩)) ∧ w'.cell? ⟨p.pb, 1, none⟩ = some (.pointer (some ⟨p.y, 0, none⟩)))) := fun W hW => by
    have hR : RGate W p.y p.sy G := HY1.out.same hW.size (fun b hb => hW.block b (HY1.out.lt b hb))
    refine (refRemove_any p.y p.sy G pe tx W hR otx).mono ?_
    rintro e w' ⟨rfl, q1, q2⟩
    have hoff : Off G w1 w' := (Off.of hW).trans q2 (fun b hb => .inl hb)
    refine ⟨by rw [HE.out.reE], q1.mono (fun b hb => ?_) (fun b hb => ?_), hoff, HSS.out w' ((hoff.block _ (by omega) hoG).trans ho1) ((hoff.block _ (by omega) hpG).trans hp1)⟩
    · rcases hb with hb | hb
      · exact .inl hb
      · exact .inr ⟨by have := hW.size; omega, hb.2⟩
    · rcases hb with hb | hb
      · have := HY1.out.lt b hb; have := hoff.size; omega
      · exact hb.2
  have Q1 : Hid ((reE p.sx pe tx) ≠ 0 → n = 0) := q1
  have Q2 : Hid (Sim st' (reS p.sx pe tx)) := q2
  have Q3 : Hid (X.Inv w1 p.x st' F') := q3
  have Q4 : Hid (∀ b, F' b → F b ∨ w.heap.size ≤ b) := q4
  have Q5 : Hid (Off F W0 w1) := q5
  have Q8 : Hid (WRow w1 w.heap.size (.slice a wr.length c) wr) := q8
  have Q10 : Hid (∀ b, F' b → (Value.slice a wr.length c).ownBlock ≠ some b) := q10
  have HNN : Hid (n = wr.length) := hnn
  have Q9 : Hid ((reE p.sx pe tx) = 0 → WrOK (tabS p.sy) (tabS (reS p.sy pe tx)) wr) := fun he => by
    have e1 := HE.out.tabS (X.ok HX.out).tel
    have e2 := q2.tabS (X.ok q3).tel
    have e3 := (q2.trans (HE.out.reS pe tx)).tabS (X.ok q3).tel
    rw [← e1, ← e3, e2]
    exact q9 he
  have Q11 : Hid ((reE p.sx pe tx) ≠ 0 → reS p.sy pe tx = p.sy) := fun he => by
    exact if_neg (by rw [← HE.out.reE]; exact he)
  clear q1 q2 q3 q4 q5 q8 q9 q10 hnn HXC
  clear x2 x3 x4 x5 x6 x7 x8 hS1
  have HE2 : Hid (Sim (reS p.sx pe tx) (reS p.sy pe tx)) := HE.out.reS pe tx
  generalize (reE p.sx pe tx) = er at *
  generalize (reS p.sx pe tx) = tx1 at *
  generalize (reS p.sy pe tx) = ty1 at *
  go_upto_region 16 with fail
  obtain ⟨x2, x3, x4, x5, x6, x7, x8⟩ := HSS.out w1 ho1 hp1
  go_region_held3 (fun w' => w'.cell? ⟨w.heap.size, 2, none⟩ = some (.int .i64 pe) ∧ w'.cell? ⟨w.heap.size, 3, none⟩ = some (.int .i64 nn) ∧ w'.cell? ⟨w.heap.size, 4, none⟩ = some (.string tx) ∧ w'.cell? ⟨w.heap.size, 5, none⟩ = some (.int .i64 bt) ∧ w'.cell? ⟨w.heap.size, 6, none⟩ = some (.int .i64 ln) ∧ w'.cell? ⟨p.pb, 0, none⟩ = some (.pointer (some ⟨p.x, 0, none⟩)) ∧ w'.cell? ⟨p.pb, 1, none⟩ = some (.pointer (some ⟨p.y, 0, none⟩)))
    (first | assumption | exact HSS.out _ ho1 hp1)
    (first | (go_at_call 30; refine (HYC.out _ ?_).mono ?_; (exact (Below.refl _ _).drew); rintro e w2 ⟨rfl, q6, q7, hS2⟩))
  have ho2 : w2.heap[w.heap.size]? = some (.cells #[.int .i64 5, .int .i64 gt, .int .i64 pe, .int .i64 nn, .string tx, .int .i64 bt, .int .i64 ln, .int .i64 hd.ds, .int .i64 hd.sr, .int .i64 hd.pr, .int .i64 hd.po, .int .i64 hd.fl, .bool hd.la, .int .i64 cp, .int .i64 bu, .int .i64 n0, .int .i64 n1, .int .i64 n2, .int .i64 n3] 43 (0, 0)) := (q7.block _ (by omega) hoG).trans (ho1.trans HO0.out)
  have y7 := cell_of_row w2 w.heap.size 7 _ _ _ ho2
  have y8 := cell_of_row w2 w.heap.size 8 _ _ _ ho2
  have y9 := cell_of_row w2 w.heap.size 9 _ _ _ ho2
  have y10 := cell_of_row w2 w.heap.size 10 _ _ _ ho2
  have y11 := cell_of_row w2 w.heap.size 11 _ _ _ ho2
  have y12 := cell_of_row w2 w.heap.size 12 _ _ _ ho2
  have hz2 := q7.size
  have HALL : Hid (∀ b, b < w.heap.size → ¬ F b → ¬ G b → w2.heap[b]? = w.heap[b]?) := fun b hb hf hg => (q7.block b (by omega) hg).trans ((Q5.out.block b (by omega) hf).trans (hb0.block b hb))
  have Q6 : Hid (RGate w2 p.y ty1 (Fr G w1 w2)) := q6
  have Q7 : Hid (Off G w1 w2) := q7
  have HLF : Hid (∀ b, lab b = 7 → ¬ F b ∧ ¬ G b) := fun b h7 => ⟨fun hf => by have := HS.out b hf; omega, fun hg => by have := HSG.out b hg; omega⟩
  have e := HPE.out
  have z2 := HY.out
  have z3 := Q3.out
  have z4 := Q6.out
  rw [e] at z2 z3 z4
  have Z2 : Hid (RGate w ps[i].y ps[i].sy G) := z2
  have Z3 : Hid (X.Inv w1 ps[i].x st' F') := z3
  have Z4 : Hid (RGate w2 ps[i].y ty1 (Fr G w1 w2)) := z4
  have HO1 : Hid (Off F w w1) := (Off.of hb0).trans Q5.out (fun b hb => .inl hb)
  clear hS2 q6 q7 x2 x3 x4 x5 x6 x7 x8 HYC ho2 e z2 z3 z4
  by_cases he : er = 0
  · subst he
    have hn0 := HNN.out
    subst hn0
    have hvb : ∀ b, (Value.slice a wr.length c).ownBlock = some b → w.heap.size ≤ b ∧ b < w1.heap.size := fun b hb => World.ownsRow.lt Q8.out b hb
    have hP2 : w2.heap[p.pb]? = some (.cells #[ptrV p.x, ptrV p.y, .slice to (tabS p.sy).length tc] 55 (0, 0)) := (HALL.out _ hpb hpF hpG).trans (by rw [HPC.out, HTV.out])
    have hW2 := (HALL.out _ hwl hwF hwG).trans HW.out
    have hrow2 := ownsRow_same (w' := w2) HWV.out.row (fun b hb => by
      have h7 := HLF.out b (HWV.out.rl b hb).1
      exact HALL.out b (World.ownsRow.lt HWV.out.row b hb).2 h7.1 h7.2)
    have hO2 : ERow w2 0 (.slice to (tabS p.sy).length tc) (tabS p.sy) := by
      have ht := HTA.out
      have h5 := ht.1.same (w' := w2) (fun b hb => by
        have h7 := HLF.out b (ht.2 b hb).1
        exact HALL.out b (World.ownsRow.lt ht.1 b hb).2 h7.1 h7.2)
      rw [HTV.out] at h5
      exact h5
    have hw2 : WRow w2 w.heap.size (.slice a wr.length c) wr := Q8.out.same (fun b hb => Q7.out.block b (hvb b hb).2 (fun hg => by have := HY.out.lt b hg; have := hvb b hb; omega))
    have hne : p.pb ≠ wl := fun e => by have := HPL.out; have := HL0.out; rw [e] at *; omega
    have hch := changedT_any wl p.pb p.y (ptrV p.x) ty1 (Fr G w1 w2) (tabS p.sy) to tc 0 a c w.heap.size wr hd w2 _ wo wc ws HOD.out hP2 hW2 rfl rfl hrow2 Q6.out hO2 hw2 (Q9.out rfl) hne (fun b hb => ⟨fun e => by have := hvb b hb; omega, fun e => by have := hvb b hb; omega⟩) hkw (fun b hb => ⟨fun e => by have := (HWV.out.rl b hb).1; have := HL0.out; rw [e] at *; omega, fun e => by have := (HWV.out.rl b hb).1; have := HPL.out; rw [e] at *; omega, fun e => by have := hvb b e; have := (World.ownsRow.lt HWV.out.row b hb).2; omega⟩)
    unfold ptrV hdV at hch
    have HCH := hid_calls hch
    have HW2 : Hid (w2.heap[wl]? = some (.cells #[.slice ga ps.length gc, .bool true, .slice so vals.length sc, .slice eo es.length ec, .slice wo ws.length wc] 31 (0, 0))) := hW2
    clear hch hP2 hW2 hrow2 hO2 hw2
    go_wp2_with (go_at_call 24; refine HCH.out.mono ?_; rintro e w9 ⟨rfl, q⟩)
    go_ret
    refine ⟨rfl, ?_⟩
    rw [HK.out]
    obtain ⟨nv, w3, w4, v', so', sc', b3, n3, s4, v4, e4, r4, n4, o4, rfl⟩ := q
    rw [HPE.out]
    exact LD.changed HL.out HES.out HWV.out HTB.out HI.out HS.out Z2.out HSG.out Z3.out Q4.out Q10.out hvb HO1.out Z4.out Q7.out (Q2.out.trans HE2.out) b3 n3 s4 v4 (fun cs hcs => by
      have hx := (b3.block wl (by omega)).trans HW2.out
      rw [hx] at hcs
      simp only [Option.some.injEq, Obj.cells.injEq] at hcs
      rw [← hcs.1]
      exact e4) r4 n4 o4
  · have hn0 := Q1.out he
    have hch := changedE_any wl p.pb a wr.length c er hd w2 he (HNN.out.symm.trans hn0)
    unfold ptrV hdV at hch
    have HCH := hid_calls hch
    have hsy := Q11.out he
    have HSY : Hid (ty1 = ps[i].sy) := hsy.trans (congrArg Pr.sy HPE.out)
    clear hch hsy he
    go_wp2_with (go_at_call 24; refine HCH.out.mono ?_; rintro e w3 ⟨rfl, hb3⟩)
    go_ret
    refine ⟨rfl, ?_⟩
    rw [HK.out]
    exact LD.refused HH.out HI.out HS.out Z2.out HSG.out Z3.out Q4.out HO1.out Z4.out Q7.out (Q2.out.trans HE2.out) hb3 HSY.out
end Go.Proofs.YtgkiknfpcbcnnaaGreat
namespace Go.Proofs.YtgkiknfpcbcnnaaGreat
open Go.RowKit
set_option maxRecDepth 20000
set_option maxHeartbeats 3200000 in
theorem ont_reset (X : XGate) {w : World} {wl : Nat} {lab l2 : Nat → Nat} {ps : List Pr} {vals es ws : List Value} (h : LD X.toXBase w wl lab l2 ps vals es ws) (i : Nat) (hi : i < ps.length) (hkw : (ws.length + 1) * 24 ≤ 140737488355328) (o : OpS) (ho : OpOK o) (hod : Hd64 o.hd) (hkd : o.kd = 6) :
    Calls Tryz.prog 14 #[ptrV wl, ptrV ps[i].pb, opV o] w fun e w' => e = .returned (.bool true) ∧ DPost X.toXBase w wl lab l2 ps vals es ws 0 w' := by
  obtain ⟨kd, gt, pe, nn, tx, bt, ln, hd, cf⟩ := o
  obtain ⟨ogt, ope, onn, obt, oln, otx⟩ := ho
  simp only [] at hkd ogt ope onn obt oln otx hod
  have HOD : Hid (Hd64 hd) := hod
  clear hod
  subst hkd
  obtain ⟨cp, bu, n0, n1, n2, n3⟩ := cf
  obtain ⟨eo, ec, wo, wc, hL, hE, hV⟩ := h.ex
  obtain ⟨ga, gc, so, sc, h1, h2, h3⟩ := hL.ex
  have HH : Hid (LD X.toXBase w wl lab l2 ps vals es ws) := h
  have HL : Hid (LC X.toXBase w wl lab true (.slice eo es.length ec) (.slice wo ws.length wc) ps vals) := hL
  have HES : Hid (EsOK w lab l2 eo ec es) := hE
  have HWV : Hid (WssOK w lab l2 wo wc ws) := hV
  have HTB : Hid (TbOK w lab l2 ps) := h.tb
  have HW : Hid (w.heap[wl]? = some (.cells #[.slice ga ps.length gc, .bool true, .slice so vals.length sc, .slice eo es.length ec, .slice wo ws.length wc] 31 (0, 0))) := h1
  obtain ⟨p, hpe⟩ : ∃ p, p = ps[i] := ⟨_, rfl⟩
  have HPE : Hid (p = ps[i]) := hpe
  have hp : PrOK X.toXBase w lab i p := by rw [hpe]; exact h2.pr i hi
  have htb : TbAt w lab l2 i p := by rw [hpe]; exact h.tb i hi
  obtain ⟨to, tc, htv⟩ := ownsRow_shape htb.1
  have HTA : Hid (TbAt w lab l2 i p) := htb
  have HTV : Hid (p.tv = .slice to (tabS p.sy).length tc) := htv
  rw [← hpe]
  clear hpe htb htv
  obtain ⟨F, f1, f2⟩ := hp.gx
  obtain ⟨G, g1, g2⟩ := hp.gy
  have hwl := lt_of_block h1
  have hpb := lt_of_block hp.cell
  have HPL : Hid (lab p.pb = 4 + 5 * i) := hp.lb
  have HL0 : Hid (lab wl = 0) := hL.l0
  have HX : Hid (X.Inv w p.x p.sx F) := f1
  have HY : Hid (RGate w p.y p.sy G) := g1
  have HE : Hid (Sim p.sx p.sy) := hp.sim
  have HS : Hid (∀ b, F b → lab b = 5 + 5 * i) := f2
  have HSG : Hid (∀ b, G b → lab b = 6 + 5 * i) := g2
  have hpF : ¬ F p.pb := fun e => by have := f2 _ e; have := hp.lb; omega
  have hpG : ¬ G p.pb := fun e => by have := g2 _ e; have := hp.lb; omega
  have hwF : ¬ F wl := fun e => by have := f2 _ e; have := hL.l0; omega
  have hwG : ¬ G wl := fun e => by have := g2 _ e; have := hL.l0; omega
  have hoF : ¬ F w.heap.size := fun e => by have := X.lt f1 _ e; omega
  have hoG : ¬ G w.heap.size := fun e => by have := g1.lt _ e; omega
  have HI : Hid (i < ps.length) := hi
  have HPC : Hid (w.heap[p.pb]? = some (.cells #[ptrV p.x, ptrV p.y, p.tv] 55 (0, 0))) := hp.cell
  clear h hL hE hV h1 h2 h3 hp f1 f2 g1 g2
  obtain ⟨W0, hW0⟩ : ∃ W0, W0 = w.alloc (.cells #[.int .i64 6, .int .i64 gt, .int .i64 pe, .int .i64 nn, .string tx, .int .i64 bt, .int .i64 ln, .int .i64 hd.ds, .int .i64 hd.sr, .int .i64 hd.pr, .int .i64 hd.po, .int .i64 hd.fl, .bool hd.la, .int .i64 cp, .int .i64 bu, .int .i64 n0, .int .i64 n1, .int .i64 n2, .int .i64 n3] 43) := ⟨_, rfl⟩
  have HW0 : Hid (W0 = w.alloc (.cells #[.int .i64 6, .int .i64 gt, .int .i64 pe, .int .i64 nn, .string tx, .int .i64 bt, .int .i64 ln, .int .i64 hd.ds, .int .i64 hd.sr, .int .i64 hd.pr, .int .i64 hd.po, .int .i64 hd.fl, .bool hd.la, .int .i64 cp, .int .i64 bu, .int .i64 n0, .int .i64 n1, .int .i64 n2, .int .i64 n3] 43)) := hW0
  have hb0 : Below w.heap.size w W0 := by rw [hW0]; exact below_alloc _ _
  have hO0 : W0.heap[w.heap.size]? = some (.cells #[.int .i64 6, .int .i64 gt, .int .i64 pe, .int .i64 nn, .string tx, .int .i64 bt, .int .i64 ln, .int .i64 hd.ds, .int .i64 hd.sr, .int .i64 hd.pr, .int .i64 hd.po, .int .i64 hd.fl, .bool hd.la, .int .i64 cp, .int .i64 bu, .int .i64 n0, .int .i64 n1, .int .i64 n2, .int .i64 n3] 43 (0, 0)) := by rw [hW0]; exact heap_alloc_new w _
  have hz0 : W0.heap.size = w.heap.size + 1 := by rw [hW0]; simp
  clear hW0
  have HZ0 : Hid (W0.heap.size = w.heap.size + 1) := hz0
  have hoz : w.heap.size < W0.heap.size := by omega
  have hpz : p.pb < W0.heap.size := by omega
  have hwz : wl < W0.heap.size := by omega
  clear hz0
  have hP0 : W0.heap[p.pb]? = some (.cells #[ptrV p.x, ptrV p.y, p.tv] 55 (0, 0)) := (hb0.block _ hpb).trans HPC.out
  have HSS : Hid (∀ w' : World, w'.heap[w.heap.size]? = W0.heap[w.heap.size]? → w'.heap[p.pb]? = W0.heap[p.pb]? → (w'.cell? ⟨w.heap.size, 2, none⟩ = some (.int .i64 pe) ∧ w'.cell? ⟨w.heap.size, 3, none⟩ = some (.int .i64 nn) ∧ w'.cell? ⟨w.heap.size, 4, none⟩ = some (.string tx) ∧ w'.cell? ⟨w.heap.size, 5, none⟩ = some (.int .i64 bt) ∧ w'.cell? ⟨w.heap.size, 6, none⟩ = some (.int .i64 ln) ∧ w'.cell? ⟨p.pb, 0, none⟩ = some (.pointer (some ⟨p.x, 0, none⟩)) ∧ w'.cell? ⟨p.pb, 1, none⟩ = some (.pointer (some ⟨p.y, 0, none⟩)))) := fun w' e1 e2 =>
    ⟨cell_of_row w' w.heap.size 2 _ _ _ (e1.trans hO0), cell_of_row w' w.heap.size 3 _ _ _ (e1.trans hO0), cell_of_row w' w.heap.size 4 _ _ _ (e1.trans hO0), cell_of_row w' w.heap.size 5 _ _ _ (e1.trans hO0), cell_of_row w' w.heap.size 6 _ _ _ (e1.trans hO0), cell_of_row w' p.pb 0 _ _ _ (e2.trans hP0), cell_of_row w' p.pb 1 _ _ _ (e2.trans hP0)⟩
  have HO0 : Hid (W0.heap[w.heap.size]? = some (.cells #[.int .i64 6, .int .i64 gt, .int .i64 pe, .int .i64 nn, .string tx, .int .i64 bt, .int .i64 ln, .int .i64 hd.ds, .int .i64 hd.sr, .int .i64 hd.pr, .int .i64 hd.po, .int .i64 hd.fl, .bool hd.la, .int .i64 cp, .int .i64 bu, .int .i64 n0, .int .i64 n1, .int .i64 n2, .int .i64 n3] 43 (0, 0))) := hO0
  have HXC : Hid (∀ W, Below W0.heap.size W0 W → Calls Tryz.prog 31 #[.pointer (some ⟨p.x, 0, none⟩), .int .i64 pe] W fun e w' => ∃ a n c wr F' st', e = .returned (.tuple #[.slice a n c, .int .i64 (rsE pe)]) ∧ n = wr.length ∧ WRow w' w.heap.size (.slice a wr.length c) wr ∧ ((rsE pe) = 0 → WrOK (tabS p.sx) (tabS (rsS p.sx pe)) wr) ∧ (∀ b, F' b → (Value.slice a wr.length c).ownBlock ≠ some b) ∧ ((rsE pe) ≠ 0 → n = 0) ∧ Sim st' (rsS p.sx pe) ∧ X.Inv w' p.x st' F' ∧ (∀ b, F' b → F b ∨ w.heap.size ≤ b) ∧ Off F W0 w' ∧ (w'.cell? ⟨w.heap.size, 2, none⟩ = some (.int .i64 pe) ∧ w'.cell? ⟨w.heap.size, 3, none⟩ = some (.int .i64 nn) ∧ w'.cell? ⟨w.heap.size, 4, none⟩ = some (.string tx) ∧ w'.cell? ⟨w.heap.size, 5, none⟩ = some (.int .i64 bt) ∧ w'.cell? ⟨w.heap.size, 6, none⟩ = some (.int .i64 ln) ∧ w'.cell? ⟨p.pb, 0, none⟩ = some (.pointer (some ⟨p.x, 0, none⟩)) ∧ w'.cell? ⟨p.pb, 1, none⟩ = some (.pointer (some ⟨p.y, 0, none⟩)))) := fun W hW => by
    have hI : X.Inv W p.x p.sx F := X.same HX.out (by have := hW.size; omega) (fun b hb => (hW.block b (by have := X.lt HX.out b hb; omega)).trans (hb0.block b (X.lt HX.out b hb)))
    have hc := X.resetW pe hI ope
    unfold ptrV at hc
    refine hc.mono ?_
    rintro e w' ⟨a, c, wr, F', st', rfl, q8, q1, q9, q2, q3, q4, q10, q5⟩
    have hoff : Off F W0 w' := (Off.of hW).trans q5 (fun b hb => .inl hb)
    exact ⟨a, wr.length, c, wr, F', st', rfl, rfl, ownsRow_base q8 (by have := hW.size; omega), q9, q10, fun hn => by rw [q1 hn]; rfl, q2, q3, fun b hb => by rcases q4 b hb with hf | hf; exact .inl hf; exact .inr (by have := hW.size; omega), hoff, HSS.out w' (hoff.block _ hoz hoF) (hoff.block _ hpz hpF)⟩
  have HS0 : Hid (W0.cell? ⟨w.heap.size, 2, none⟩ = some (.int .i64 pe) ∧ W0.cell? ⟨w.heap.size, 3, none⟩ = some (.int .i64 nn) ∧ W0.cell? ⟨w.heap.size, 4, none⟩ = some (.string tx) ∧ W0.cell? ⟨w.heap.size, 5, none⟩ = some (.int .i64 bt) ∧ W0.cell? ⟨w.heap.size, 6, none⟩ = some (.int .i64 ln) ∧ W0.cell? ⟨p.pb, 0, none⟩ = some (.pointer (some ⟨p.x, 0, none⟩)) ∧ W0.cell? ⟨p.pb, 1, none⟩ = some (.pointer (some ⟨p.y, 0, none⟩))) := HSS.out W0 rfl rfl
  clear hO0 hP0
  unfold ptrV
  obtain ⟨K, hK⟩ : ∃ K : World → Prop, K = fun w' => DPost X.toXBase w wl lab l2 ps vals es ws 0 w' := ⟨_, rfl⟩
  have HK : Hid (K = fun w' => DPost X.toXBase w wl lab l2 ps vals es ws 0 w') := hK
  suffices hsuff : Calls Tryz.prog 14 #[.pointer (some ⟨wl, 0, none⟩), .pointer (some ⟨p.pb, 0, none⟩), opV ⟨6, gt, pe, nn, tx, bt, ln, hd, ⟨cp, bu, n0, n1, n2, n3⟩⟩] w fun e w' => e = .returned (.bool true) ∧ K w' by
    refine hsuff.mono ?_
    rintro e w' ⟨he, hkk⟩
    rw [hK] at hkk
    exact ⟨he, hkk⟩
  clear hK
  simp only [opV, opL]
  go_enter Tryz.func14, Tryz.ntmps14
  go_upto_region 19 with fail
  rw [← HW0.out]
  obtain ⟨x2, x3, x4, x5, x6, x7, x8⟩ := HS0.out
  go_region_held3 (fun w' => w'.cell? ⟨w.heap.size, 2, none⟩ = some (.int .i64 pe) ∧ w'.cell? ⟨w.heap.size, 3, none⟩ = some (.int .i64 nn) ∧ w'.cell? ⟨w.heap.size, 4, none⟩ = some (.string tx) ∧ w'.cell? ⟨w.heap.size, 5, none⟩ = some (.int .i64 bt) ∧ w'.cell? ⟨w.heap.size, 6, none⟩ = some (.int .i64 ln) ∧ w'.cell? ⟨p.pb, 0, none⟩ = some (.pointer (some ⟨p.x, 0, none⟩)) ∧ w'.cell? ⟨p.pb, 1, none⟩ = some (.pointer (some ⟨p.y, 0, none⟩)))
    (first | assumption | exact HSS.out _ rfl rfl)
    (first | (go_at_call 31; refine (HXC.out _ ?_).mono ?_; (exact (Below.refl _ _).drew); rintro e w1 ⟨a, n, c, wr, F', st', rfl, hnn, q8, q9, q10, q1, q2, q3, q4, q5, hS1⟩))
  have ho1 : w1.heap[w.heap.size]? = W0.heap[w.heap.size]? := q5.block _ hoz hoF
  have hp1 : w1.heap[p.pb]? = W0.heap[p.pb]? := q5.block _ hpz hpF
  have hw1 : w1.heap[wl]? = W0.heap[wl]? := q5.block _ hwz hwF
  have hz1 := q5.size
  have HY1 : Hid (RGate w1 p.y p.sy G) := HY.out.same (by omega) (fun b hb => (q5.block b (by have := HY.out.lt b hb; omega) (fun hf => by have := HS.out b hf; have := HSG.out b hb; omega)).trans (hb0.block b (HY.out.lt b hb)))
  have HYC : Hid (∀ W, Below w1.heap.size w1 W → Calls Tryz.prog 32 #[.pointer (some ⟨p.y, 0, none⟩), .int .i64 pe] W fun e w' => e = .returned (.int .i64 (rsE pe)) ∧ RGate w' p.y (rsS p.sy pe) (Fr G w1 w') ∧ Off G w1 w' ∧ (w'.cell? ⟨w.heap.size, 2, none⟩ = some (.int .i64 pe) ∧ w'.cell? ⟨w.heap.size, 3, none⟩ = some (.int .i64 nn) ∧ w'.cell? ⟨w.heap.size, 4, none⟩ = some (.string tx) ∧ w'.cell? ⟨w.heap.size, 5, none⟩ = some (.int .i64 bt) ∧ w'.cell? ⟨w.heap.size, 6, none⟩ = some (.int .i64 ln) ∧ w'.cell? ⟨p.pb, 0, none⟩ = some (.pointer (some ⟨p.x, 0, none⟩)) ∧ w'.cell? ⟨p.pb, 1, none⟩ = some (.pointer (some ⟨p.y, 0, none⟩)))) := fun W hW => by
    have hR : RGate W p.y p.sy G := HY1.out.same hW.size (fun b hb => hW.block b (HY1.out.lt b hb))
    refine (refReset_any p.y p.sy G pe W hR ).mono ?_
    rintro e w' ⟨rfl, q1, q2⟩
    have hoff : Off G w1 w' := (Off.of hW).trans q2 (fun b hb => .inl hb)
    refine ⟨rfl, q1.mono (fun b hb => ?_) (fun b hb => ?_), hoff, HSS.out w' ((hoff.block _ (by omega) hoG).trans ho1) ((hoff.block _ (by omega) hpG).trans hp1)⟩
    · rcases hb with hb | hb
      · exact .inl hb
      · exact .inr ⟨by have := hW.size; omega, hb.2⟩
    · rcases hb with hb | hb
      · have := HY1.out.lt b hb; have := hoff.size; omega
      · exact hb.2
  have Q1 : Hid ((rsE pe) ≠ 0 → n = 0) := q1
  have Q2 : Hid (Sim st' (rsS p.sx pe)) := q2
  have Q3 : Hid (X.Inv w1 p.x st' F') := q3
  have Q4 : Hid (∀ b, F' b → F b ∨ w.heap.size ≤ b) := q4
  have Q5 : Hid (Off F W0 w1) := q5
  have Q8 : Hid (WRow w1 w.heap.size (.slice a wr.length c) wr) := q8
  have Q10 : Hid (∀ b, F' b → (Value.slice a wr.length c).ownBlock ≠ some b) := q10
  have HNN : Hid (n = wr.length) := hnn
  have Q9 : Hid ((rsE pe) = 0 → WrOK (tabS p.sy) (tabS (rsS p.sy pe)) wr) := fun he => by
    have e1 := HE.out.tabS (X.ok HX.out).tel
    have e2 := q2.tabS (X.ok q3).tel
    have e3 := (q2.trans (HE.out.rsS pe)).tabS (X.ok q3).tel
    rw [← e1, ← e3, e2]
    exact q9 he
  have Q11 : Hid ((rsE pe) ≠ 0 → rsS p.sy pe = p.sy) := fun he => by
    unfold rsE at he
    unfold rsS
    split at he
    · exact absurd rfl he
    · rename_i hp9
      exact if_neg hp9
  clear q1 q2 q3 q4 q5 q8 q9 q10 hnn HXC
  clear x2 x3 x4 x5 x6 x7 x8 hS1
  have HE2 : Hid (Sim (rsS p.sx pe) (rsS p.sy pe)) := HE.out.rsS pe
  generalize (rsE pe) = er at *
  generalize (rsS p.sx pe) = tx1 at *
  generalize (rsS p.sy pe) = ty1 at *
  go_upto_region 20 with fail
  obtain ⟨x2, x3, x4, x5, x6, x7, x8⟩ := HSS.out w1 ho1 hp1
  go_region_held3 (fun w' => w'.cell? ⟨w.heap.size, 2, none⟩ = some (.int .i64 pe) ∧ w'.cell? ⟨w.heap.size, 3, none⟩ = some (.int .i64 nn) ∧ w'.cell? ⟨w.heap.size, 4, none⟩ = some (.string tx) ∧ w'.cell? ⟨w.heap.size, 5, none⟩ = some (.int .i64 bt) ∧ w'.cell? ⟨w.heap.size, 6, none⟩ = some (.int .i64 ln) ∧ w'.cell? ⟨p.pb, 0, none⟩ = some (.pointer (some ⟨p.x, 0, none⟩)) ∧ w'.cell? ⟨p.pb, 1, none⟩ = some (.pointer (some ⟨p.y, 0, none⟩)))
    (first | assumption | exact HSS.out _ ho1 hp1)
    (first | (go_at_call 32; refine (HYC.out _ ?_).mono ?_; (exact (Below.refl _ _).drew); rintro e w2 ⟨rfl, q6, q7, hS2⟩))
  have ho2 : w2.heap[w.heap.size]? = some (.cells #[.int .i64 6, .int .i64 gt, .int .i64 pe, .int .i64 nn, .string tx, .int .i64 bt, .int .i64 ln, .int .i64 hd.ds, .int .i64 hd.sr, .int .i64 hd.pr, .int .i64 hd.po, .int .i64 hd.fl, .bool hd.la, .int .i64 cp, .int .i64 bu, .int .i64 n0, .int .i64 n1, .int .i64 n2, .int .i64 n3] 43 (0, 0)) := (q7.block _ (by omega) hoG).trans (ho1.trans HO0.out)
  have y7 := cell_of_row w2 w.heap.size 7 _ _ _ ho2
  have y8 := cell_of_row w2 w.heap.size 8 _ _ _ ho2
  have y9 := cell_of_row w2 w.heap.size 9 _ _ _ ho2
  have y10 := cell_of_row w2 w.heap.size 10 _ _ _ ho2
  have y11 := cell_of_row w2 w.heap.size 11 _ _ _ ho2
  have y12 := cell_of_row w2 w.heap.size 12 _ _ _ ho2
  have hz2 := q7.size
  have HALL : Hid (∀ b, b < w.heap.size → ¬ F b → ¬ G b → w2.heap[b]? = w.heap[b]?) := fun b hb hf hg => (q7.block b (by omega) hg).trans ((Q5.out.block b (by omega) hf).trans (hb0.block b hb))
  have Q6 : Hid (RGate w2 p.y ty1 (Fr G w1 w2)) := q6
  have Q7 : Hid (Off G w1 w2) := q7
  have HLF : Hid (∀ b, lab b = 7 → ¬ F b ∧ ¬ G b) := fun b h7 => ⟨fun hf => by have := HS.out b hf; omega, fun hg => by have := HSG.out b hg; omega⟩
  have e := HPE.out
  have z2 := HY.out
  have z3 := Q3.out
  have z4 := Q6.out
  rw [e] at z2 z3 z4
  have Z2 : Hid (RGate w ps[i].y ps[i].sy G) := z2
  have Z3 : Hid (X.Inv w1 ps[i].x st' F') := z3
  have Z4 : Hid (RGate w2 ps[i].y ty1 (Fr G w1 w2)) := z4
  have HO1 : Hid (Off F w w1) := (Off.of hb0).trans Q5.out (fun b hb => .inl hb)
  clear hS2 q6 q7 x2 x3 x4 x5 x6 x7 x8 HYC ho2 e z2 z3 z4
  by_cases he : er = 0
  · subst he
    have hn0 := HNN.out
    subst hn0
    have hvb : ∀ b, (Value.slice a wr.length c).ownBlock = some b → w.heap.size ≤ b ∧ b < w1.heap.size := fun b hb => World.ownsRow.lt Q8.out b hb
    have hP2 : w2.heap[p.pb]? = some (.cells #[ptrV p.x, ptrV p.y, .slice to (tabS p.sy).length tc] 55 (0, 0)) := (HALL.out _ hpb hpF hpG).trans (by rw [HPC.out, HTV.out])
    have hW2 := (HALL.out _ hwl hwF hwG).trans HW.out
    have hrow2 := ownsRow_same (w' := w2) HWV.out.row (fun b hb => by
      have h7 := HLF.out b (HWV.out.rl b hb).1
      exact HALL.out b (World.ownsRow.lt HWV.out.row b hb).2 h7.1 h7.2)
    have hO2 : ERow w2 0 (.slice to (tabS p.sy).length tc) (tabS p.sy) := by
      have ht := HTA.out
      have h5 := ht.1.same (w' := w2) (fun b hb => by
        have h7 := HLF.out b (ht.2 b hb).1
        exact HALL.out b (World.ownsRow.lt ht.1 b hb).2 h7.1 h7.2)
      rw [HTV.out] at h5
      exact h5
    have hw2 : WRow w2 w.heap.size (.slice a wr.length c) wr := Q8.out.same (fun b hb => Q7.out.block b (hvb b hb).2 (fun hg => by have := HY.out.lt b hg; have := hvb b hb; omega))
    have hne : p.pb ≠ wl := fun e => by have := HPL.out; have := HL0.out; rw [e] at *; omega
    have hch := changedT_any wl p.pb p.y (ptrV p.x) ty1 (Fr G w1 w2) (tabS p.sy) to tc 0 a c w.heap.size wr hd w2 _ wo wc ws HOD.out hP2 hW2 rfl rfl hrow2 Q6.out hO2 hw2 (Q9.out rfl) hne (fun b hb => ⟨fun e => by have := hvb b hb; omega, fun e => by have := hvb b hb; omega⟩) hkw (fun b hb => ⟨fun e => by have := (HWV.out.rl b hb).1; have := HL0.out; rw [e] at *; omega, fun e => by have := (HWV.out.rl b hb).1; have := HPL.out; rw [e] at *; omega, fun e => by have := hvb b e; have := (World.ownsRow.lt HWV.out.row b hb).2; omega⟩)
    unfold ptrV hdV at hch
    have HCH := hid_calls hch
    have HW2 : Hid (w2.heap[wl]? = some (.cells #[.slice ga ps.length gc, .bool true, .slice so vals.length sc, .slice eo es.length ec, .slice wo ws.length wc] 31 (0, 0))) := hW2
    clear hch hP2 hW2 hrow2 hO2 hw2
    go_wp2_with (go_at_call 24; refine HCH.out.mono ?_; rintro e w9 ⟨rfl, q⟩)
    go_ret
    refine ⟨rfl, ?_⟩
    rw [HK.out]
    obtain ⟨nv, w3, w4, v', so', sc', b3, n3, s4, v4, e4, r4, n4, o4, rfl⟩ := q
    rw [HPE.out]
    exact LD.changed HL.out HES.out HWV.out HTB.out HI.out HS.out Z2.out HSG.out Z3.out Q4.out Q10.out hvb HO1.out Z4.out Q7.out (Q2.out.trans HE2.out) b3 n3 s4 v4 (fun cs hcs => by
      have hx := (b3.block wl (by omega)).trans HW2.out
      rw [hx] at hcs
      simp only [Option.some.injEq, Obj.cells.injEq] at hcs
      rw [← hcs.1]
      exact e4) r4 n4 o4
  · have hn0 := Q1.out he
    have hch := changedE_any wl p.pb a wr.length c er hd w2 he (HNN.out.symm.trans hn0)
    unfold ptrV hdV at hch
    have HCH := hid_calls hch
    have hsy := Q11.out he
    have HSY : Hid (ty1 = ps[i].sy) := hsy.trans (congrArg Pr.sy HPE.out)
    clear hch hsy he
    go_wp2_with (go_at_call 24; refine HCH.out.mono ?_; rintro e w3 ⟨rfl, hb3⟩)
    go_ret
    refine ⟨rfl, ?_⟩
    rw [HK.out]
    exact LD.refused HH.out HI.out HS.out Z2.out HSG.out Z3.out Q4.out HO1.out Z4.out Q7.out (Q2.out.trans HE2.out) hb3 HSY.out
end Go.Proofs.YtgkiknfpcbcnnaaGreat
namespace Go.Proofs.YtgkiknfpcbcnnaaGreat
open Go.RowKit
set_option maxRecDepth 20000
set_option maxHeartbeats 3200000 in
theorem lawLooked_any (X : XGate) {w : World} {wl : Nat} {lab l2 : Nat → Nat} {ps : List Pr} {vals es ws : List Value} (h : LD X.toXBase w wl lab l2 ps vals es ws) (i : Nat) (hi : i < ps.length) (hd : Hd) (hh : Hd64 hd) :
    Calls Tryz.prog 33 #[ptrV ps[i].pb, hdV hd] w fun e w' => e = .returned (.bool true) ∧ DPost X.toXBase w wl lab l2 ps vals es ws 0 w' := by
  obtain ⟨eo, ec, wo, wc, h1, h2, h3⟩ := h.ex
  obtain ⟨ga, gc, so, sc, g1, g2, g3⟩ := h1.ex
  obtain ⟨p, hpe⟩ : ∃ p, p = ps[i] := ⟨_, rfl⟩
  have HPE : Hid (p = ps[i]) := hpe
  have hp : PrOK X.toXBase w lab i p := by rw [hpe]; exact g2.pr i hi
  have htb : TbAt w lab l2 i p := by rw [hpe]; exact h.tb i hi
  rw [← hpe]
  clear hpe
  obtain ⟨F, f1, f2⟩ := hp.gx
  have hpb := lt_of_block hp.cell
  obtain ⟨to, tc, htv⟩ := ownsRow_shape htb.1
  have htr := htb.1
  rw [htv] at htr
  have HTL : Hid (∀ b, (Value.slice to (tabS p.sy).length tc).ownBlock = some b → lab b = 7) := by rw [← htv]; exact fun b hb => (htb.2 b hb).1
  have HTR : Hid (ERow w 0 (.slice to (tabS p.sy).length tc) (tabS p.sy)) := htr
  have HPC : Hid (w.heap[p.pb]? = some (.cells #[ptrV p.x, ptrV p.y, .slice to (tabS p.sy).length tc] 55 (0, 0))) := by show _ = _; rw [← htv]; exact hp.cell
  have HX : Hid (X.Inv w p.x p.sx F) := f1
  have HS : Hid (∀ b, F b → lab b = 5 + 5 * i) := f2
  have HE : Hid (tabS p.sx = tabS p.sy) := hp.sim.tabS (X.ok f1).tel
  have H256 : (tabS p.sy).length ≤ 256 := by rw [← HE.out]; have := tabS_len (X.ok f1); omega
  have hpF : ¬ F p.pb := fun e => by have := f2 _ e; have := hp.lb; omega
  have hoF : ¬ F w.heap.size := fun e => by have := X.lt f1 _ e; omega
  have HI : Hid (i < ps.length) := hi
  have HD : Hid (LD X.toXBase w wl lab l2 ps vals es ws) := h
  have HH : Hid (Hd64 hd) := hh
  have HLA : Hid (hdOK hd = true → lkA (tabS p.sx) hd = firB (tabS p.sy) (hbZ hd)) := fun hk => by unfold lkA; rw [if_pos hk, firB_eq, hbZ_ok hk, HE.out]
  have HLN : Hid (hdOK hd = false → lkA (tabS p.sx) hd = 0) := fun hk => by unfold lkA; rw [hk]; rfl
  clear h h1 h2 h3 g1 g2 g3 hp htb f1 f2 htv htr hh
  obtain ⟨K, hK⟩ : ∃ K : World → Prop, K = DPost X.toXBase w wl lab l2 ps vals es ws 0 := ⟨_, rfl⟩
  have HKE : Hid (∀ w1 w3 F', X.Inv w1 p.x p.sx F' → (∀ b, F' b → F b ∨ w.heap.size ≤ b) → Off F w w1 → Below w1.heap.size w1 w3 → K w3) := fun w1 w3 F' i1 k1 o1 b3 => by
    rw [hK]
    rw [HPE.out] at i1
    exact LD.asked HD.out HI.out HS.out i1 k1 o1 b3
  suffices hsuff : Calls Tryz.prog 33 #[.pointer (some ⟨p.pb, 0, none⟩), .agg #[.int .i64 hd.ds, .int .i64 hd.sr, .int .i64 hd.pr, .int .i64 hd.po, .int .i64 hd.fl, .bool hd.la]] w fun e w' => e = .returned (.bool true) ∧ K w' by
    refine Calls.mono (show Calls Tryz.prog 33 #[ptrV p.pb, hdV hd] w _ from hsuff) ?_
    rintro e w' ⟨he, hkk⟩
    rw [hK] at hkk
    exact ⟨he, hkk⟩
  clear hK
  obtain ⟨wA, hwA⟩ : ∃ wA, wA = w.alloc (.cells #[.int .i64 hd.ds, .int .i64 hd.sr, .int .i64 hd.pr, .int .i64 hd.po, .int .i64 hd.fl, .bool hd.la] 41) := ⟨_, rfl⟩
  have HWA : Hid (wA = w.alloc (.cells #[.int .i64 hd.ds, .int .i64 hd.sr, .int .i64 hd.pr, .int .i64 hd.po, .int .i64 hd.fl, .bool hd.la] 41)) := hwA
  have hbA : Below w.heap.size w wA := by rw [hwA]; exact below_alloc _ _
  have hvA : wA.heap[w.heap.size]? = some (.cells #[.int .i64 hd.ds, .int .i64 hd.sr, .int .i64 hd.pr, .int .i64 hd.po, .int .i64 hd.fl, .bool hd.la] 41 (0, 0)) := by rw [hwA]; exact heap_alloc_new w _
  have hzA := lt_of_block hvA
  have HVA : Hid (wA.heap[w.heap.size]? = some (.cells #[.int .i64 hd.ds, .int .i64 hd.sr, .int .i64 hd.pr, .int .i64 hd.po, .int .i64 hd.fl, .bool hd.la] 41 (0, 0))) := hvA
  have HPA : Hid (wA.heap[p.pb]? = some (.cells #[.pointer (some ⟨p.x, 0, none⟩), .pointer (some ⟨p.y, 0, none⟩), .slice to (tabS p.sy).length tc] 55 (0, 0))) := (hbA.block _ hpb).trans HPC.out
  have hzb := hbA.size
  clear hwA hvA
  have HSS : Hid (∀ w' : World, w'.heap[w.heap.size]? = wA.heap[w.heap.size]? → w'.heap[p.pb]? = wA.heap[p.pb]? → (w'.cell? ⟨p.pb, 0, none⟩ = some (.pointer (some ⟨p.x, 0, none⟩)) ∧ w'.cell? ⟨p.pb, 2, none⟩ = some (.slice to (tabS p.sy).length tc) ∧ w'.cell? ⟨w.heap.size, 0, none⟩ = some (.int .i64 hd.ds) ∧ w'.cell? ⟨w.heap.size, 1, none⟩ = some (.int .i64 hd.sr) ∧ w'.cell? ⟨w.heap.size, 2, none⟩ = some (.int .i64 hd.pr) ∧ w'.cell? ⟨w.heap.size, 3, none⟩ = some (.int .i64 hd.po) ∧ w'.cell? ⟨w.heap.size, 4, none⟩ = some (.int .i64 hd.fl) ∧ w'.cell? ⟨w.heap.size, 5, none⟩ = some (.bool hd.la))) := fun w' e1 e2 => by
    have hv := e1.trans HVA.out
    have hq := e2.trans HPA.out
    exact ⟨cell_of_row w' p.pb 0 _ _ _ hq, cell_of_row w' p.pb 2 _ _ _ hq, cell_of_row w' w.heap.size 0 _ _ _ hv, cell_of_row w' w.heap.size 1 _ _ _ hv, cell_of_row w' w.heap.size 2 _ _ _ hv, cell_of_row w' w.heap.size 3 _ _ _ hv, cell_of_row w' w.heap.size 4 _ _ _ hv, cell_of_row w' w.heap.size 5 _ _ _ hv⟩
  have HXC : Hid (∀ W, Below wA.heap.size wA W → Calls Tryz.prog 61 #[.pointer (some ⟨p.x, 0, none⟩), .agg #[.int .i64 hd.ds, .int .i64 hd.sr, .int .i64 hd.pr, .int .i64 hd.po, .int .i64 hd.fl, .bool hd.la]] W fun e w' => ∃ F', e = .returned (.tuple #[.int .i64 (lkA (tabS p.sx) hd), .int .i64 (lkE hd)]) ∧ X.Inv w' p.x p.sx F' ∧ (∀ b, F' b → F b ∨ w.heap.size ≤ b) ∧ Off F wA w' ∧ (w'.cell? ⟨p.pb, 0, none⟩ = some (.pointer (some ⟨p.x, 0, none⟩)) ∧ w'.cell? ⟨p.pb, 2, none⟩ = some (.slice to (tabS p.sy).length tc) ∧ w'.cell? ⟨w.heap.size, 0, none⟩ = some (.int .i64 hd.ds) ∧ w'.cell? ⟨w.heap.size, 1, none⟩ = some (.int .i64 hd.sr) ∧ w'.cell? ⟨w.heap.size, 2, none⟩ = some (.int .i64 hd.pr) ∧ w'.cell? ⟨w.heap.size, 3, none⟩ = some (.int .i64 hd.po) ∧ w'.cell? ⟨w.heap.size, 4, none⟩ = some (.int .i64 hd.fl) ∧ w'.cell? ⟨w.heap.size, 5, none⟩ = some (.bool hd.la))) := fun W hW => by
    have hwW : Below w.heap.size w W := hbA.trans (hW.mono hzb)
    have hc := X.lookup hd (X.same HX.out hwW.size (fun b hb => hwW.block b (X.lt HX.out b hb)))
    unfold ptrV at hc
    refine hc.mono ?_
    rintro e w' ⟨F', rfl, q1, q2, q3⟩
    have hoff : Off F wA w' := (Off.of hW).trans q3 (fun b hb => .inl hb)
    exact ⟨F', rfl, q1, fun b hb => by rcases q2 b hb with hf | hf; exact .inl hf; exact .inr (by have := hwW.size; omega), hoff, HSS.out w' (hoff.block _ hzA hoF) (hoff.block _ (by omega) hpF)⟩
  have HKO : Hid (∀ V, Calls Tryz.prog 62 #[.agg #[.int .i64 hd.ds, .int .i64 hd.sr, .int .i64 hd.pr, .int .i64 hd.po, .int .i64 hd.fl, .bool hd.la]] V fun e w' => e = .returned (.bool (hdOK hd)) ∧ Below V.heap.size V w') := fun V => headerOK_any hd V
  obtain ⟨x1, x2, x3, x4, x5, x6, x7, x8⟩ := HSS.out wA rfl rfl
  have HLE : Hid (lkE hd = if hdOK hd then 0 else 3) := rfl
  generalize lkA (tabS p.sx) hd = ka at *
  generalize lkE hd = ke at *
  generalize hkn : hdOK hd = kn at *
  go_enter Tryz.func33, Tryz.ntmps33
  go_upto_region 1 with fail
  rw [← HWA.out]
  go_region_held3 (fun w' => w'.cell? ⟨p.pb, 0, none⟩ = some (.pointer (some ⟨p.x, 0, none⟩)) ∧ w'.cell? ⟨p.pb, 2, none⟩ = some (.slice to (tabS p.sy).length tc) ∧ w'.cell? ⟨w.heap.size, 0, none⟩ = some (.int .i64 hd.ds) ∧ w'.cell? ⟨w.heap.size, 1, none⟩ = some (.int .i64 hd.sr) ∧ w'.cell? ⟨w.heap.size, 2, none⟩ = some (.int .i64 hd.pr) ∧ w'.cell? ⟨w.heap.size, 3, none⟩ = some (.int .i64 hd.po) ∧ w'.cell? ⟨w.heap.size, 4, none⟩ = some (.int .i64 hd.fl) ∧ w'.cell? ⟨w.heap.size, 5, none⟩ = some (.bool hd.la))
    (first | assumption | exact HSS.out _ rfl rfl)
    (first | (go_at_call 61; refine (HXC.out _ ?_).mono ?_; (exact (Below.refl _ _).drew); rintro e w1 ⟨F', rfl, q1, q2, q3, hS1⟩))
  clear x1 x2 x3 x4 x5 x6 x7 x8
  have hz1 := q3.size
  have ho1 : w1.heap[w.heap.size]? = wA.heap[w.heap.size]? := q3.block _ hzA hoF
  have hp1 : w1.heap[p.pb]? = wA.heap[p.pb]? := q3.block _ (by omega) hpF
  have HKW : Hid (∀ w3, Below w1.heap.size w1 w3 → K w3) := fun w3 b3 => HKE.out w1 w3 F' q1 q2 ((Off.of hbA).trans q3 (fun b hb => .inl hb)) b3
  have HT1 : Hid (EnIn w1 to (tabS p.sy)) := EnIn.of (HTR.out.same (fun b hb => (q3.block b (by have := (World.ownsRow.lt HTR.out b hb).2; omega) (fun hf => by have := HS.out b hf; have := HTL.out b hb; omega)).trans (hbA.block b (World.ownsRow.lt HTR.out b hb).2)))
  clear hS1 q1 q2 q3 HXC HKE HTR
  obtain ⟨x1, x2, x3, x4, x5, x6, x7, x8⟩ := HSS.out w1 ho1 hp1
  cases kn
  · obtain rfl := HLN.out rfl
    have hle := HLE.out
    simp only [Bool.false_eq_true, if_false] at hle
    subst hle
    go_wp2_with (go_at_call 62; refine (HKO.out _).mono ?_; rintro e w2 ⟨rfl, hb2⟩)
    go_ret
    exact ⟨rfl, HKW.out _ hb2⟩
  · have hla := HLA.out rfl
    have hle := HLE.out
    simp only [if_true] at hle
    subst hle
    have HLO : Hid (∀ V, Below w1.heap.size w1 V → Calls Tryz.prog 63 #[.slice to (tabS p.sy).length tc, .agg #[.int .i64 hd.ds, .int .i64 hd.sr, .int .i64 hd.pr, .int .i64 hd.po, .int .i64 hd.fl, .bool hd.la]] V fun e w' => e = .returned (.int .i64 ka) ∧ Below w1.heap.size w1 w' ∧ (w'.cell? ⟨p.pb, 0, none⟩ = some (.pointer (some ⟨p.x, 0, none⟩)) ∧ w'.cell? ⟨p.pb, 2, none⟩ = some (.slice to (tabS p.sy).length tc) ∧ w'.cell? ⟨w.heap.size, 0, none⟩ = some (.int .i64 hd.ds) ∧ w'.cell? ⟨w.heap.size, 1, none⟩ = some (.int .i64 hd.sr) ∧ w'.cell? ⟨w.heap.size, 2, none⟩ = some (.int .i64 hd.pr) ∧ w'.cell? ⟨w.heap.size, 3, none⟩ = some (.int .i64 hd.po) ∧ w'.cell? ⟨w.heap.size, 4, none⟩ = some (.int .i64 hd.fl) ∧ w'.cell? ⟨w.heap.size, 5, none⟩ = some (.bool hd.la))) := fun V hV => by
      refine (refLooked_any (tabS p.sy) to tc hd V HH.out (HT1.out.below hV) H256).mono ?_
      rintro e w' ⟨rfl, hb⟩
      have hb' : Below w1.heap.size w1 w' := hV.trans (hb.mono hV.size)
      exact ⟨by rw [hla], hb', HSS.out w' ((hb'.block _ (by omega)).trans ho1) ((hb'.block _ (by omega)).trans hp1)⟩
    clear HLA HLN hla
    generalize tabS p.sy = TT at *
    have gq : (ka == ka) = true := by simp
    go_upto_region 5 with (go_at_call 62; refine (HKO.out _).mono ?_; rintro e w2 ⟨rfl, hb2⟩)
    have ho2 := (hb2.block _ (by omega)).trans ho1
    have hp2 := (hb2.block _ (by omega)).trans hp1
    clear x1 x2 x3 x4 x5 x6 x7 x8
    obtain ⟨x1, x2, x3, x4, x5, x6, x7, x8⟩ := HSS.out w2 ho2 hp2
    go_region_held3 (fun w' => w'.cell? ⟨p.pb, 0, none⟩ = some (.pointer (some ⟨p.x, 0, none⟩)) ∧ w'.cell? ⟨p.pb, 2, none⟩ = some (.slice to TT.length tc) ∧ w'.cell? ⟨w.heap.size, 0, none⟩ = some (.int .i64 hd.ds) ∧ w'.cell? ⟨w.heap.size, 1, none⟩ = some (.int .i64 hd.sr) ∧ w'.cell? ⟨w.heap.size, 2, none⟩ = some (.int .i64 hd.pr) ∧ w'.cell? ⟨w.heap.size, 3, none⟩ = some (.int .i64 hd.po) ∧ w'.cell? ⟨w.heap.size, 4, none⟩ = some (.int .i64 hd.fl) ∧ w'.cell? ⟨w.heap.size, 5, none⟩ = some (.bool hd.la))
      (first | assumption | exact HSS.out _ ho2 hp2)
      (first | (go_at_call 63; refine (HLO.out _ ?_).mono ?_; (exact hb2.drew); rintro e w3 ⟨rfl, hb3, hS3⟩))
    clear x1 x2 x3 x4 x5 x6 x7 x8 hS3
    go_wp2_with fail
    go_ret
    exact ⟨rfl, HKW.out _ hb3⟩
end Go.Proofs.YtgkiknfpcbcnnaaGreat
