import Derived.Test.YtgkiknfpcbcnnaaGreatTeb
import Derived.Deep.RegionHeld3
namespace Go.Proofs.YtgkiknfpcbcnnaaGreat
open Go.RowKit
set_option maxRecDepth 20000
set_option maxHeartbeats 3200000 in
/-- Where tables are looked at, and the call has changed the gate. -/
theorem changedT_any (wl pb y : Nat) (xv : Value) (sy : Gs) (G : Nat → Prop) (O : List En) (to : Option Addr) (tc B1 : Nat) (a : Option Addr) (c B3 : Nat) (wr : List Wr) (h : Hd) (w : World) (cs : Array Value) (wo : Option Addr) (wc : Nat) (ws : List Value)
    (hh : Hd64 h) (hP : w.heap[pb]? = some (.cells #[xv, ptrV y, .slice to O.length tc] 55 (0, 0))) (hW : w.heap[wl]? = some (.cells cs 31 (0, 0))) (h1 : cs[1]? = some (.bool true)) (h4 : cs[4]? = some (.slice wo ws.length wc)) (hrow : w.ownsRow 0 68 1 (.slice wo ws.length wc) ws.length ws)
    (hg : RGate w y sy G) (hO : ERow w B1 (.slice to O.length tc) O) (hw : WRow w B3 (.slice a wr.length c) wr) (hok : WrOK O (tabS sy) wr) (hne : pb ≠ wl) (hvn : ∀ b, (Value.slice a wr.length c).ownBlock = some b → b ≠ wl ∧ b ≠ pb) (hk : (ws.length + 1) * 24 ≤ 140737488355328) (hso : ∀ b, (Value.slice wo ws.length wc).ownBlock = some b → b ≠ wl ∧ b ≠ pb ∧ (Value.slice a wr.length c).ownBlock ≠ some b) :
    Calls Tryz.prog 24 #[ptrV wl, ptrV pb, .slice a wr.length c, .int .i64 0, .int .i64 0, hdV h] w fun e w' => e = .returned (.bool true) ∧ ∃ nv w3 w4 v' so' sc', Below w.heap.size w w3 ∧ ERow w3 w.heap.size nv (tabS sy) ∧ SwAt w4 v' ws.length ∧ (∀ b, v'.ownBlock = some b → (Value.slice a wr.length c).ownBlock = some b) ∧ w4.heap[wl]? = some (.cells (cs.setIfInBounds 4 (.slice so' (ws.length + 1) sc')) 31 (0, 0)) ∧ w4.ownsRow 0 68 1 (.slice so' (ws.length + 1) sc') (ws.length + 1) (ws ++ [v']) ∧ (∀ b, (Value.slice so' (ws.length + 1) sc').ownBlock = some b → (Value.slice wo ws.length wc).ownBlock = some b ∨ w3.heap.size ≤ b) ∧ Off (fun b => b = wl ∨ (Value.slice a wr.length c).ownBlock = some b ∨ (Value.slice wo ws.length wc).ownBlock = some b) w3 w4 ∧ w' = w4.setCell ⟨pb, 2, none⟩ nv := by
  have hwl := lt_of_block hW
  have hpb := lt_of_block hP
  have HP : Hid (w.heap[pb]? = some (.cells #[xv, ptrV y, .slice to O.length tc] 55 (0, 0))) := hP
  have HW : Hid (w.heap[wl]? = some (.cells cs 31 (0, 0))) := hW
  have H1 : Hid (w.cell? ⟨wl, 1, none⟩ = some (.bool true)) := by show _ = _; rw [cell_of_row w wl 1 cs _ _ hW]; exact h1
  have H4 : Hid (cs[4]? = some (.slice wo ws.length wc)) := h4
  have HROW : Hid (w.ownsRow 0 68 1 (.slice wo ws.length wc) ws.length ws) := hrow
  have HG : Hid (RGate w y sy G) := hg
  have HO : Hid (ERow w B1 (.slice to O.length tc) O) := hO
  have HWR : Hid (WRow w B3 (.slice a wr.length c) wr) := hw
  have HOK : Hid (WrOK O (tabS sy) wr) := hok
  have HH : Hid (Hd64 h) := hh
  have HVN : Hid (∀ b, (Value.slice a wr.length c).ownBlock = some b → b ≠ wl ∧ b ≠ pb) := hvn
  have HSO : Hid (∀ b, (Value.slice wo ws.length wc).ownBlock = some b → b ≠ wl ∧ b ≠ pb ∧ (Value.slice a wr.length c).ownBlock ≠ some b) := hso
  clear hP hW h1 h4 hrow hg hO hw hok hh hvn hso
  obtain ⟨K, hK⟩ : ∃ K : World → Prop, K = fun w' => ∃ nv w3 w4 v' so' sc', Below w.heap.size w w3 ∧ ERow w3 w.heap.size nv (tabS sy) ∧ SwAt w4 v' ws.length ∧ (∀ b, v'.ownBlock = some b → (Value.slice a wr.length c).ownBlock = some b) ∧ w4.heap[wl]? = some (.cells (cs.setIfInBounds 4 (.slice so' (ws.length + 1) sc')) 31 (0, 0)) ∧ w4.ownsRow 0 68 1 (.slice so' (ws.length + 1) sc') (ws.length + 1) (ws ++ [v']) ∧ (∀ b, (Value.slice so' (ws.length + 1) sc').ownBlock = some b → (Value.slice wo ws.length wc).ownBlock = some b ∨ w3.heap.size ≤ b) ∧ Off (fun b => b = wl ∨ (Value.slice a wr.length c).ownBlock = some b ∨ (Value.slice wo ws.length wc).ownBlock = some b) w3 w4 ∧ w' = w4.setCell ⟨pb, 2, none⟩ nv := ⟨_, rfl⟩
  have HK : Hid (K = fun w' => ∃ nv w3 w4 v' so' sc', Below w.heap.size w w3 ∧ ERow w3 w.heap.size nv (tabS sy) ∧ SwAt w4 v' ws.length ∧ (∀ b, v'.ownBlock = some b → (Value.slice a wr.length c).ownBlock = some b) ∧ w4.heap[wl]? = some (.cells (cs.setIfInBounds 4 (.slice so' (ws.length + 1) sc')) 31 (0, 0)) ∧ w4.ownsRow 0 68 1 (.slice so' (ws.length + 1) sc') (ws.length + 1) (ws ++ [v']) ∧ (∀ b, (Value.slice so' (ws.length + 1) sc').ownBlock = some b → (Value.slice wo ws.length wc).ownBlock = some b ∨ w3.heap.size ≤ b) ∧ Off (fun b => b = wl ∨ (Value.slice a wr.length c).ownBlock = some b ∨ (Value.slice wo ws.length wc).ownBlock = some b) w3 w4 ∧ w' = w4.setCell ⟨pb, 2, none⟩ nv) := hK
  suffices hsuff : Calls Tryz.prog 24 #[.pointer (some ⟨wl, 0, none⟩), .pointer (some ⟨pb, 0, none⟩), .slice a wr.length c, .int .i64 0, .int .i64 0, .agg #[.int .i64 h.ds, .int .i64 h.sr, .int .i64 h.pr, .int .i64 h.po, .int .i64 h.fl, .bool h.la]] w fun e w' => e = .returned (.bool true) ∧ K w' by
    refine Calls.mono (show Calls Tryz.prog 24 #[ptrV wl, ptrV pb, .slice a wr.length c, .int .i64 0, .int .i64 0, hdV h] w _ from hsuff) ?_
    rintro e w' ⟨he, hkk⟩
    rw [hK] at hkk
    exact ⟨he, hkk⟩
  clear hK
  obtain ⟨wA, hwA⟩ : ∃ wA, wA = w.alloc (.cells #[.int .i64 h.ds, .int .i64 h.sr, .int .i64 h.pr, .int .i64 h.po, .int .i64 h.fl, .bool h.la] 41) := ⟨_, rfl⟩
  have HWA : Hid (wA = w.alloc (.cells #[.int .i64 h.ds, .int .i64 h.sr, .int .i64 h.pr, .int .i64 h.po, .int .i64 h.fl, .bool h.la] 41)) := hwA
  have hbA : Below w.heap.size w wA := by rw [hwA]; exact below_alloc _ _
  have hvA : wA.heap[w.heap.size]? = some (.cells #[.int .i64 h.ds, .int .i64 h.sr, .int .i64 h.pr, .int .i64 h.po, .int .i64 h.fl, .bool h.la] 41 (0, 0)) := by rw [hwA]; exact heap_alloc_new w _
  have hzA := lt_of_block hvA
  have HVA : Hid (wA.heap[w.heap.size]? = some (.cells #[.int .i64 h.ds, .int .i64 h.sr, .int .i64 h.pr, .int .i64 h.po, .int .i64 h.fl, .bool h.la] 41 (0, 0))) := hvA
  clear hwA hvA
  have k1 := (hbA.cell (p := ⟨wl, 1, none⟩) hwl).trans H1.out
  have p1 := (hbA.cell (p := ⟨pb, 1, none⟩) hpb).trans (cell_of_row w pb 1 _ _ _ HP.out)
  rw [HWA.out] at k1 p1
  unfold ptrV at p1
  have HT : Hid (Calls Tryz.prog 46 #[.pointer (some ⟨y, 0, none⟩)] wA fun e w' => (∃ v, e = .returned v ∧ ERow w' wA.heap.size v (tabS sy)) ∧ Below wA.heap.size wA w') := refTable_any y sy G wA (HG.out.same hbA.size (fun b hb => hbA.block b (HG.out.lt b hb)))
  go_enter Tryz.func24, Tryz.ntmps24
  go_upto_region 8 with (go_at_call 46; rw [← HWA.out]; refine HT.out.mono ?_; rintro e wB ⟨⟨nv, rfl, hrB⟩, hbB⟩)
  obtain ⟨no, nc, rfl⟩ := ownsRow_shape hrB
  have hzAB := hbB.size
  have HRB : Hid (ERow wB wA.heap.size (.slice no (tabS sy).length nc) (tabS sy)) := hrB
  have hbwB : Below w.heap.size w wB := hbA.trans (hbB.mono hbA.size)
  clear hrB HT k1 p1
  have HSS : Hid (∀ w' : World, Below wB.heap.size wB w' → (w'.cell? ⟨pb, 2, none⟩ = some (.slice to O.length tc) ∧ w'.cell? ⟨w.heap.size, 0, none⟩ = some (.int .i64 h.ds) ∧ w'.cell? ⟨w.heap.size, 1, none⟩ = some (.int .i64 h.sr) ∧ w'.cell? ⟨w.heap.size, 2, none⟩ = some (.int .i64 h.pr) ∧ w'.cell? ⟨w.heap.size, 3, none⟩ = some (.int .i64 h.po) ∧ w'.cell? ⟨w.heap.size, 4, none⟩ = some (.int .i64 h.fl) ∧ w'.cell? ⟨w.heap.size, 5, none⟩ = some (.bool h.la) ∧ Below wB.heap.size wB w')) := fun w' hw' => by
    have hA' : Below wA.heap.size wA w' := hbB.trans (hw'.mono hzAB)
    have hv := (hA'.block _ hzA).trans HVA.out
    have hw2 : Below w.heap.size w w' := hbA.trans (hA'.mono hbA.size)
    exact ⟨(hw2.cell (p := ⟨pb, 2, none⟩) hpb).trans (cell_of_row w pb 2 _ _ _ HP.out), cell_of_row w' w.heap.size 0 _ _ _ hv, cell_of_row w' w.heap.size 1 _ _ _ hv, cell_of_row w' w.heap.size 2 _ _ _ hv, cell_of_row w' w.heap.size 3 _ _ _ hv, cell_of_row w' w.heap.size 4 _ _ _ hv, cell_of_row w' w.heap.size 5 _ _ _ hv, hw'⟩
  have HTC : Hid (∀ W, Below wB.heap.size wB W → Calls Tryz.prog 47 #[.slice to O.length tc, .slice no (tabS sy).length nc, .slice a wr.length c, .agg #[.int .i64 h.ds, .int .i64 h.sr, .int .i64 h.pr, .int .i64 h.po, .int .i64 h.fl, .bool h.la]] W fun e w' => e = .returned (.bool true) ∧ (w'.cell? ⟨pb, 2, none⟩ = some (.slice to O.length tc) ∧ w'.cell? ⟨w.heap.size, 0, none⟩ = some (.int .i64 h.ds) ∧ w'.cell? ⟨w.heap.size, 1, none⟩ = some (.int .i64 h.sr) ∧ w'.cell? ⟨w.heap.size, 2, none⟩ = some (.int .i64 h.pr) ∧ w'.cell? ⟨w.heap.size, 3, none⟩ = some (.int .i64 h.po) ∧ w'.cell? ⟨w.heap.size, 4, none⟩ = some (.int .i64 h.fl) ∧ w'.cell? ⟨w.heap.size, 5, none⟩ = some (.bool h.la) ∧ Below wB.heap.size wB w')) := fun W hW => by
    have hwW : Below w.heap.size w W := hbwB.trans (hW.mono hbwB.size)
    have := refTurned_any O (tabS sy) wr to no a tc nc c B1 wA.heap.size B3 h W HH.out (HO.out.same (fun b hb => hwW.block b (World.ownsRow.lt HO.out b hb).2)) (HRB.out.below hW) (HWR.out.same (fun b hb => hwW.block b (World.ownsRow.lt HWR.out b hb).2)) HOK.out
    unfold hdV at this
    refine this.mono ?_
    rintro e w' ⟨rfl, hb⟩
    exact ⟨rfl, HSS.out w' (hW.trans (hb.mono hW.size))⟩
  obtain ⟨x1, x2, x3, x4, x5, x6, x7, x8⟩ := HSS.out wB (Below.refl _ _)
  generalize tabS sy = A at *
  go_region_held3 (fun w' => w'.cell? ⟨pb, 2, none⟩ = some (.slice to O.length tc) ∧ w'.cell? ⟨w.heap.size, 0, none⟩ = some (.int .i64 h.ds) ∧ w'.cell? ⟨w.heap.size, 1, none⟩ = some (.int .i64 h.sr) ∧ w'.cell? ⟨w.heap.size, 2, none⟩ = some (.int .i64 h.pr) ∧ w'.cell? ⟨w.heap.size, 3, none⟩ = some (.int .i64 h.po) ∧ w'.cell? ⟨w.heap.size, 4, none⟩ = some (.int .i64 h.fl) ∧ w'.cell? ⟨w.heap.size, 5, none⟩ = some (.bool h.la) ∧ Below wB.heap.size wB w')
    (first | assumption | exact HSS.out _ (Below.refl _ _).drew)
    (first | (go_at_call 47; refine (HTC.out _ ?_).mono ?_; (exact (Below.refl _ _).drew); rintro e w3 ⟨rfl, hS3⟩))
  have hb3 := hS3.2.2.2.2.2.2.2
  have hbw3 : Below w.heap.size w w3 := hbwB.trans (hb3.mono hbwB.size)
  clear x1 x2 x3 x4 x5 x6 x7 x8 hS3 HTC HSS HVA
  have HR3 : Hid (ERow w3 w.heap.size (.slice no A.length nc) A) := ownsRow_base (HRB.out.below hb3) hbA.size
  have hW3 := (hbw3.block wl hwl).trans HW.out
  have hP3 := (hbw3.block pb hpb).trans HP.out
  have hks := keepWrites_any wl wo ws.length wc ws (.slice a wr.length c) B3 wr w3 cs hW3 H4.out (ownsRow_same HROW.out (fun b hb => hbw3.block b (World.ownsRow.lt HROW.out b hb).2)) (HWR.out.same (fun b hb => hbw3.block b (World.ownsRow.lt HWR.out b hb).2)) (fun b hb => (HVN.out b hb).1) hk (fun b hb => ⟨(HSO.out b hb).1, (HSO.out b hb).2.2⟩)
  unfold ptrV at hks
  have HKS := hid_calls hks
  have HP3 : Hid (w3.heap[pb]? = some (.cells #[xv, .pointer (some ⟨y, 0, none⟩), .slice to O.length tc] 55 (0, 0))) := hP3
  have HB3 : Hid (Below w.heap.size w w3) := hbw3
  have hz3 := hbw3.size
  clear hks hW3 hP3 hb3 hbw3 HRB
  go_wp2_with (go_at_call 48; refine HKS.out.mono ?_; rintro e w4 ⟨rfl, v', so', sc', s4, v4, e4, r4, n4, o4⟩; have hP4 : w4.heap[pb]? = some (.cells #[xv, .pointer (some ⟨y, 0, none⟩), .slice to O.length tc] 55 (0, 0)) := (o4.block pb (by omega) (fun hq => by rcases hq with hq | hq | hq; exact hne hq; exact (HVN.out pb hq).2 rfl; exact (HSO.out pb hq).2.1 rfl)).trans HP3.out; have c4 := cell_of_row w4 pb 2 _ _ _ hP4; have f4 := frozen_of_row w4 pb 2 _ _ hP4; have HF4 : Hid (SwAt w4 v' ws.length ∧ (∀ b, v'.ownBlock = some b → (Value.slice a wr.length c).ownBlock = some b) ∧ w4.heap[wl]? = some (.cells (cs.setIfInBounds 4 (.slice so' (ws.length + 1) sc')) 31 (0, 0)) ∧ w4.ownsRow 0 68 1 (.slice so' (ws.length + 1) sc') (ws.length + 1) (ws ++ [v']) ∧ (∀ b, (Value.slice so' (ws.length + 1) sc').ownBlock = some b → (Value.slice wo ws.length wc).ownBlock = some b ∨ w3.heap.size ≤ b) ∧ Off (fun b => b = wl ∨ (Value.slice a wr.length c).ownBlock = some b ∨ (Value.slice wo ws.length wc).ownBlock = some b) w3 w4) := ⟨s4, v4, e4, r4, n4, o4⟩; clear s4 v4 e4 r4 n4 o4 hP4 HKS)
  go_ret
  refine ⟨rfl, ?_⟩
  rw [HK.out]
  obtain ⟨q1, q2, q3, q4, q5, q6⟩ := HF4.out
  exact ⟨_, w3, w4, v', so', sc', HB3.out, HR3.out, q1, q2, q3, q4, q5, q6, rfl⟩
set_option maxHeartbeats 800000 in
/-- With an error there are no writes. -/
theorem changedE_any (wl pb : Nat) (a : Option Addr) (n c : Nat) (er : Int) (h : Hd) (w : World) (he : er ≠ 0) (hn : n = 0) :
    Calls Tryz.prog 24 #[ptrV wl, ptrV pb, .slice a n c, .int .i64 er, .int .i64 er, hdV h] w fun e w' => e = .returned (.bool true) ∧ Below w.heap.size w w' := by
  subst hn
  unfold ptrV hdV
  have g1 : (er != 0) = true := by simpa using he
  clear he
  go_enter Tryz.func24, Tryz.ntmps24
  go_wp2_with fail
  go_ret
  exact ⟨rfl, below_alloc _ _⟩
end Go.Proofs.YtgkiknfpcbcnnaaGreat
namespace Go.Proofs.YtgkiknfpcbcnnaaGreat
open Go.RowKit
set_option maxRecDepth 20000
theorem LD.changed {X : XBase} {w w1 w2 w3 w4 : World} {wl : Nat} {lab l2 : Nat → Nat} {ps : List Pr} {vals es ws : List Value} {i : Nat} {eo wo wo' : Option Addr} {ec wc wc' : Nat} {F F' G : Nat → Prop} {sx sy : Gs} {v v' nv : Value}
    (h1 : LC X w wl lab true (.slice eo es.length ec) (.slice wo ws.length wc) ps vals) (h2 : EsOK w lab l2 eo ec es) (h3 : WssOK w lab l2 wo wc ws) (ht : TbOK w lab l2 ps) (hi : i < ps.length)
    (f2 : ∀ b, F b → lab b = 5 + 5 * i) (g1 : RGate w ps[i].y ps[i].sy G) (g2 : ∀ b, G b → lab b = 6 + 5 * i)
    (i1 : X.Inv w1 ps[i].x sx F') (k1 : ∀ b, F' b → F b ∨ w.heap.size ≤ b) (k2 : ∀ b, F' b → v.ownBlock ≠ some b) (hvb : ∀ b, v.ownBlock = some b → w.heap.size ≤ b ∧ b < w1.heap.size) (o1 : Off F w w1) (r2 : RGate w2 ps[i].y sy (Fr G w1 w2)) (o2 : Off G w1 w2) (hs : Sim sx sy)
    (b3 : Below w2.heap.size w2 w3) (n3 : ERow w3 w2.heap.size nv (tabS sy))
    (s4 : SwAt w4 v' ws.length) (v4 : ∀ b, v'.ownBlock = some b → v.ownBlock = some b) (e4 : ∀ cs, w3.heap[wl]? = some (.cells cs 31 (0, 0)) → w4.heap[wl]? = some (.cells (cs.setIfInBounds 4 (.slice wo' (ws.length + 1) wc')) 31 (0, 0))) (r4 : w4.ownsRow 0 68 1 (.slice wo' (ws.length + 1) wc') (ws.length + 1) (ws ++ [v'])) (n4 : ∀ b, (Value.slice wo' (ws.length + 1) wc').ownBlock = some b → (Value.slice wo ws.length wc).ownBlock = some b ∨ w3.heap.size ≤ b) (o4 : Off (fun b => b = wl ∨ v.ownBlock = some b ∨ (Value.slice wo ws.length wc).ownBlock = some b) w3 w4) :
    DPost X w wl lab l2 ps vals es ws 0 (w4.setCell ⟨ps[i].pb, 2, none⟩ nv) := by
  have hz1 := o1.size
  have hz2 := o2.size
  have hz3 := b3.size
  have hz4 := o4.size
  have l0 := h1.l0
  obtain ⟨hwl, hpb, hlb⟩ : wl < w.heap.size ∧ ps[i].pb < w.heap.size ∧ lab ps[i].pb = 4 + 5 * i := by
    obtain ⟨_, _, _, _, e, e2, _⟩ := h1.ex
    exact ⟨lt_of_block e, lt_of_block (e2.pr i hi).cell, (e2.pr i hi).lb⟩
  have hwb : ∀ b, (Value.slice wo ws.length wc).ownBlock = some b → lab b = 7 ∧ l2 b = 2 ∧ b < w.heap.size := fun b hb => ⟨(h3.rl b hb).1, (h3.rl b hb).2, (World.ownsRow.lt h3.row b hb).2⟩
  have hnb : ∀ b, nv.ownBlock = some b → w2.heap.size ≤ b ∧ b < w3.heap.size := fun b hb => World.ownsRow.lt n3 b hb
  obtain ⟨lab', hc, hl, hl7, HO2⟩ := LC.turned7 h1 hi f2 g1 g2 i1 k1 k2 hvb o1 r2 o2 hs
  obtain ⟨q, hq⟩ : ∃ q : Pr, q = ⟨ps[i].pb, ps[i].x, ps[i].y, sx, sy, ps[i].tv⟩ := ⟨_, rfl⟩
  have hqp : q.pb = ps[i].pb := by rw [hq]
  rw [← hq] at hc
  have hi1 : i < (ps.set i q).length := by rw [List.length_set]; exact hi
  have hqi : (ps.set i q)[i] = q := by rw [List.getElem_set_self]
  have hc4 := (hc.same b3).off (o4.mono (fun b hb => by
    rcases hb with hb | hb | hb
    · exact .inr hb
    · exact .inl (hl7 b (hvb b hb).1 (.inl hb))
    · exact .inl (by have := hwb b hb; rw [hl b this.2.2]; exact this.1))) (fun ga gc so sc e => e4 _ e)
  obtain ⟨hc5, o5⟩ := hc4.setT hi1 nv
  rw [hqi, hqp, List.set_set] at hc5
  rw [hqi, hqp] at o5
  have HO : Off (fun b => lab b ≠ 7 ∨ l2 b ≠ 0) w (w4.setCell ⟨ps[i].pb, 2, none⟩ nv) := by
    refine Off.trans (Off.trans ((HO2.mono (fun b hb => .inl (by omega))).then b3) o4 (fun b hb => ?_)) o5 (fun b hb => ?_)
    · rcases hb with rfl | hb | hb
      · exact .inl (.inl (by omega))
      · exact .inr (hvb b hb).1
      · exact .inl (.inr (by have := hwb b hb; omega))
    · exact .inl (.inl (by rw [hb]; omega))
  have keep : ∀ b, b < w.heap.size → lab b = 7 → l2 b ≠ 2 → (w4.setCell ⟨ps[i].pb, 2, none⟩ nv).heap[b]? = w.heap[b]? := fun b hb h7 hn => by
    refine (o5.block b (by omega) (fun e => by rw [e] at h7; omega)).trans ((o4.block b (by omega) ?_).trans ((b3.block b (by omega)).trans (HO2.block b hb (by omega))))
    rintro (rfl | e | e)
    · omega
    · have := hvb b e; omega
    · have := hwb b e; omega
  have npb : ∀ b, b ≠ ps[i].pb → (w4.setCell ⟨ps[i].pb, 2, none⟩ nv).heap[b]? = w4.heap[b]? := fun b hb => Below.heap_setCell _ _ _ _ hb
  obtain ⟨m2, hm⟩ : ∃ m2 : Nat → Nat, m2 = fun b => if b < w.heap.size then l2 b else if v.ownBlock = some b then 4 + 3 * ws.length else if nv.ownBlock = some b then 5 + 3 * i else 2 := ⟨_, rfl⟩
  have hm0 : ∀ b, b < w.heap.size → m2 b = l2 b := fun b hb => by rw [hm]; simp only [if_pos hb]
  have hmv : ∀ b, v.ownBlock = some b → m2 b = 4 + 3 * ws.length := fun b hb => by rw [hm]; simp only [if_neg (show ¬ b < w.heap.size by have := hvb b hb; omega), if_pos hb]
  have hmt : ∀ b, nv.ownBlock = some b → m2 b = 5 + 3 * i := fun b hb => by
    have h5 := hnb b hb
    have hn : ¬ v.ownBlock = some b := fun e => by have := hvb b e; omega
    rw [hm]
    simp only [if_neg (show ¬ b < w.heap.size by omega), if_neg hn, if_pos hb]
  have hmn : ∀ b, w3.heap.size ≤ b → m2 b = 2 := fun b hb => by
    have hn : ¬ v.ownBlock = some b := fun e => by have := hvb b e; omega
    have hn2 : ¬ nv.ownBlock = some b := fun e => by have := hnb b e; omega
    rw [hm]
    simp only [if_neg (show ¬ b < w.heap.size by omega), if_neg hn, if_neg hn2]
  clear hm
  have hll : ∀ b, b < w.heap.size → lab' b = lab b ∧ m2 b = l2 b := fun b hb => ⟨hl b hb, hm0 b hb⟩
  refine ⟨lab', m2, ps.set i ⟨ps[i].pb, q.x, q.y, q.sx, q.sy, nv⟩, vals, es, ws ++ [v'], ⟨⟨eo, ec, wo', wc', ?_, h2.same hll (fun b hb h7 hk => keep b hb h7 (by rcases hk with hk | ⟨k, hk⟩ <;> omega)), ⟨?_, ?_, ?_⟩⟩, ?_⟩, by rw [List.length_set]; exact Nat.le_refl _, by rw [List.length_set]; exact Nat.le_refl _, Nat.le_succ _, Nat.le_succ _, by rw [List.length_append]; exact Nat.le_refl _, hll, HO⟩
  · rw [List.length_append]; exact hc5
  · rw [List.length_append]
    exact ownsRow_same r4 (fun b hb => npb b (fun e => by
      rcases n4 b hb with hw | hw
      · have := hwb b hw; rw [e] at this; omega
      · omega))
  · rw [List.length_append]
    intro b hb
    rcases n4 b hb with e | e
    · have := hwb b e
      rw [hl b this.2.2, hm0 b this.2.2]
      exact ⟨this.1, this.2.1⟩
    · exact ⟨hl7 b (by omega) (.inr (by omega)), hmn b (by omega)⟩
  · intro k hk
    rw [List.length_append, List.length_singleton] at hk
    by_cases hkv : k < ws.length
    · rw [List.getElem_append_left hkv]
      obtain ⟨u1, u2⟩ := h3.at_ k hkv
      refine ⟨u1.same (fun b hb => keep b (u1.lt b hb) (u2 b hb).1 (by have := (u2 b hb).2; omega)), fun b hb => ?_⟩
      rw [hl b (u1.lt b hb), hm0 b (u1.lt b hb)]
      exact u2 b hb
    · obtain rfl : k = ws.length := by omega
      rw [List.getElem_append_right (by omega)]
      simp only [Nat.sub_self, List.getElem_cons_zero]
      exact ⟨s4.same (fun b hb => npb b (fun e => by have := hvb b (v4 b hb); omega)), fun b hb => ⟨hl7 b (hvb b (v4 b hb)).1 (.inl (v4 b hb)), hmv b (v4 b hb)⟩⟩
  · intro k hk
    rw [List.length_set] at hk
    rw [List.getElem_set]
    split
    · rename_i e
      subst e
      refine ⟨?_, fun b hb => ⟨hl7 b (by have := hnb b hb; omega) (.inr (hnb b hb).1), hmt b hb⟩⟩
      show ERow _ 0 nv (tabS q.sy)
      rw [show q.sy = sy by rw [hq]]
      refine ownsRow_base (n3.same (fun b hb => ?_)) (Nat.zero_le _)
      have h5 := hnb b hb
      refine (npb b (fun e => by omega)).trans (o4.block b h5.2 ?_)
      rintro (e | e | e)
      · omega
      · have := hvb b e; omega
      · have := hwb b e; omega
    · rename_i hki
      exact (ht k hk).same hll (fun b hb h7 h5 => keep b hb h7 (by omega))
theorem LD.refused {X : XBase} {w w1 w2 w3 : World} {wl : Nat} {lab l2 : Nat → Nat} {ps : List Pr} {vals es ws : List Value} {i : Nat} {F F' G : Nat → Prop} {sx sy : Gs} (h : LD X w wl lab l2 ps vals es ws) (hi : i < ps.length)
    (f2 : ∀ b, F b → lab b = 5 + 5 * i) (g1 : RGate w ps[i].y ps[i].sy G) (g2 : ∀ b, G b → lab b = 6 + 5 * i)
    (i1 : X.Inv w1 ps[i].x sx F') (k1 : ∀ b, F' b → F b ∨ w.heap.size ≤ b) (o1 : Off F w w1) (r2 : RGate w2 ps[i].y sy (Fr G w1 w2)) (o2 : Off G w1 w2) (hs : Sim sx sy) (b3 : Below w2.heap.size w2 w3) (hsy : sy = ps[i].sy) :
    DPost X w wl lab l2 ps vals es ws 0 w3 := by
  obtain ⟨eo, ec, wo, wc, h1, h2, h3⟩ := h.ex
  obtain ⟨lab', hc, hl, _, HO2⟩ := LC.turned7 (v := .slice none 0 0) h1 hi f2 g1 g2 i1 k1 (fun b _ => by simp [Value.ownBlock]) (fun b hb => by simp [Value.ownBlock] at hb) o1 r2 o2 hs
  have HO := HO2.then b3
  have hll : ∀ b, b < w.heap.size → lab' b = lab b ∧ l2 b = l2 b := fun b hb => ⟨hl b hb, rfl⟩
  have keep : ∀ b, b < w.heap.size → lab b = 7 → w3.heap[b]? = w.heap[b]? := fun b hb h7 => HO.block b hb (by omega)
  refine ⟨lab', l2, _, vals, es, ws, ⟨⟨eo, ec, wo, wc, hc.same b3, h2.same hll (fun b hb h7 _ => keep b hb h7), h3.same hll (fun b hb h7 _ => keep b hb h7)⟩, ?_⟩, by rw [List.length_set]; exact Nat.le_refl _, by rw [List.length_set]; exact Nat.le_refl _, Nat.le_succ _, Nat.le_succ _, Nat.le_succ _, hll, HO.mono (fun b hb => .inl (by omega))⟩
  intro k hk
  rw [List.length_set] at hk
  rw [List.getElem_set]
  split
  · rename_i e
    subst e
    have := (h.tb i hi).same hll (w' := w3) (fun b hb h7 _ => keep b hb h7)
    exact ⟨by show ERow _ 0 ps[i].tv (tabS sy); rw [hsy]; exact this.1, this.2⟩
  · exact (h.tb k hk).same hll (fun b hb h7 _ => keep b hb h7)
theorem LD.asked {X : XBase} {w w1 w3 : World} {wl : Nat} {lab l2 : Nat → Nat} {ps : List Pr} {vals es ws : List Value} {i : Nat} {F F' : Nat → Prop} (h : LD X w wl lab l2 ps vals es ws) (hi : i < ps.length) (f2 : ∀ b, F b → lab b = 5 + 5 * i) (i1 : X.Inv w1 ps[i].x ps[i].sx F') (k1 : ∀ b, F' b → F b ∨ w.heap.size ≤ b) (o1 : Off F w w1) (b3 : Below w1.heap.size w1 w3) : DPost X w wl lab l2 ps vals es ws 0 w3 := by
  obtain ⟨eo, ec, wo, wc, h1, h2, h3⟩ := h.ex
  obtain ⟨lab', hc, hl, _⟩ := LC.shown (v := .slice none 0 0) h1 hi f2 i1 k1 (fun b _ => by simp [Value.ownBlock]) o1
  have HO := o1.then b3
  have hll : ∀ b, b < w.heap.size → lab' b = lab b ∧ l2 b = l2 b := fun b hb => ⟨hl b hb, rfl⟩
  have keep : ∀ b, b < w.heap.size → lab b = 7 → w3.heap[b]? = w.heap[b]? := fun b hb h7 => HO.block b hb (fun hf => by have := f2 b hf; omega)
  exact ⟨lab', l2, ps, vals, es, ws, ⟨⟨eo, ec, wo, wc, hc.same b3, h2.same hll (fun b hb h7 _ => keep b hb h7), h3.same hll (fun b hb h7 _ => keep b hb h7)⟩, fun k hk => (h.tb k hk).same hll (fun b hb h7 _ => keep b hb h7)⟩, Nat.le_refl _, Nat.le_refl _, Nat.le_succ _, Nat.le_succ _, Nat.le_succ _, hll, HO.mono (fun b hb => .inl (by have := f2 b hb; omega))⟩
theorem tabS_new (c : Cf) : tabS ⟨c, [], []⟩ = [] := rfl
theorem lawStatusT_any (X : XBase) {w : World} {wl : Nat} {lab l2 : Nat → Nat} {ps : List Pr} {vals es ws : List Value} (h : LD X w wl lab l2 ps vals es ws) (i : Nat) (hi : i < ps.length) (hk : (vals.length + 1) * 24 ≤ 140737488355328) :
    Calls Tryz.prog 18 #[ptrV wl, ptrV ps[i].pb] w fun e w' => e = .returned (.bool true) ∧ DPost X w wl lab l2 ps vals es ws 0 w' := by
  obtain ⟨eo, ec, wo, wc, h1, h2, h3⟩ := h.ex
  refine (lawStatus_any X h1 i hi hk).mono ?_
  rintro e w' ⟨rfl, lab', v, hc, hl, ho⟩
  have hll : ∀ b, b < w.heap.size → lab' b = lab b ∧ l2 b = l2 b := fun b hb => ⟨hl b hb, rfl⟩
  have keep : ∀ b, b < w.heap.size → lab b = 7 → w'.heap[b]? = w.heap[b]? := fun b hb h7 => ho.block b hb (by omega)
  exact ⟨rfl, lab', l2, ps, vals ++ [v], es, ws, ⟨⟨eo, ec, wo, wc, hc, h2.same hll (fun b hb h7 _ => keep b hb h7), h3.same hll (fun b hb h7 _ => keep b hb h7)⟩, fun k hk => (h.tb k hk).same hll (fun b hb h7 _ => keep b hb h7)⟩, Nat.le_refl _, Nat.le_refl _, by rw [List.length_append]; exact Nat.le_refl _, Nat.le_succ _, Nat.le_succ _, hll, ho.mono (fun b hb => .inl (by omega))⟩
theorem openedT_any (X : XBase) {w : World} {wl : Nat} {lab l2 : Nat → Nat} {ps : List Pr} {vals es ws : List Value} (h : LD X w wl lab l2 ps vals es ws) (c : Cf) (hk : (ps.length + 1) * 8 ≤ 140737488355328) :
    Calls Tryz.prog 7 #[ptrV wl, cfV c] w fun e w' => e = .returned (.bool true) ∧ DPost X w wl lab l2 ps vals es ws 1 w' := by
  obtain ⟨eo, ec, wo, wc, h1, h2, h3⟩ := h.ex
  refine (opened_any X h1 c hk).mono ?_
  rintro e w' ⟨rfl, lab', qs, hc, hq1, hq, hl, ho⟩
  have hll : ∀ b, b < w.heap.size → lab' b = lab b ∧ l2 b = l2 b := fun b hb => ⟨hl b hb, rfl⟩
  have keep : ∀ b, b < w.heap.size → lab b = 7 → w'.heap[b]? = w.heap[b]? := fun b hb h7 => ho.block b hb (by omega)
  refine ⟨rfl, lab', l2, ps ++ qs, vals, es, ws, ⟨⟨eo, ec, wo, wc, hc, h2.same hll (fun b hb h7 _ => keep b hb h7), h3.same hll (fun b hb h7 _ => keep b hb h7)⟩, fun k hk => ?_⟩, by rw [List.length_append]; omega, by rw [List.length_append]; omega, Nat.le_succ _, Nat.le_succ _, Nat.le_succ _, hll, ho.mono (fun b hb => .inl (by omega))⟩
  by_cases hkp : k < ps.length
  · rw [List.getElem_append_left hkp]
    exact (h.tb k hkp).same hll (fun b hb h7 _ => keep b hb h7)
  · rw [List.length_append] at hk
    rw [List.getElem_append_right (by omega)]
    obtain ⟨e1, e2⟩ := hq _ (List.getElem_mem (l := qs) (n := k - ps.length) (by omega))
    refine ⟨?_, fun b hb => by rw [e2] at hb; simp [Value.ownBlock] at hb⟩
    rw [e1, e2, tabS_new]
    exact ERow.nil _ _
end Go.Proofs.YtgkiknfpcbcnnaaGreat
