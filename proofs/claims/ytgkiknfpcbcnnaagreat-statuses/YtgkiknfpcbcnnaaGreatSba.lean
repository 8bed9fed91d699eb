import Derived.Test.YtgkiknfpcbcnnaaGreatGaj
import Derived.Deep.RegionHeld3
import Derived.Deep.Cut
namespace Go.Proofs.YtgkiknfpcbcnnaaGreat
open Go.RowKit
set_option maxRecDepth 20000

/-- The memory side of a call that changes a gate: what comes behind the walk. -/
theorem LC.turned {X : XBase} {w w1 w2 w3 : World} {wl : Nat} {lab : Nat → Nat} {tb : Bool} {ev wv : Value} {ps : List Pr} {vals : List Value} {i : Nat} {F F' G : Nat → Prop} {sx sy : Gs}
    (h : LC X w wl lab tb ev wv ps vals) (hi : i < ps.length) (f2 : ∀ b, F b → lab b = 5 + 5 * i) (g1 : RGate w ps[i].y ps[i].sy G) (g2 : ∀ b, G b → lab b = 6 + 5 * i)
    (i1 : X.Inv w1 ps[i].x sx F') (k1 : ∀ b, F' b → F b ∨ w.heap.size ≤ b) (o1 : Off F w w1) (r2 : RGate w2 ps[i].y sy (Fr G w1 w2)) (o2 : Off G w1 w2) (hs : Sim sx sy) (b3 : Below w2.heap.size w2 w3) :
    ∃ lab', LC X w3 wl lab' tb ev wv (ps.set i ⟨ps[i].pb, ps[i].x, ps[i].y, sx, sy, ps[i].tv⟩) vals ∧ (∀ b, b < w.heap.size → lab' b = lab b) ∧ Off (fun b => lab b = 5 + 5 * i ∨ lab b = 6 + 5 * i) w w3 := by
  obtain ⟨ga, gc, so, sc, h1, h2, h3⟩ := h.ex
  have hz1 := o1.size
  have hz2 := o2.size
  have hz3 := b3.size
  have hwl := lt_of_block h1
  have HO : Off (fun b => lab b = 5 + 5 * i ∨ lab b = 6 + 5 * i) w w3 :=
    ((o1.mono (fun b hb => .inl (f2 b hb))).trans o2 (fun b hb => .inl (.inr (g2 b hb)))).then b3
  have hp := h2.pr i hi
  have hpb := lt_of_block hp.cell
  obtain ⟨lab', hlab⟩ : ∃ lab' : Nat → Nat, lab' = fun b => if b < w.heap.size then lab b else if b < w1.heap.size then 5 + 5 * i else 6 + 5 * i := ⟨_, rfl⟩
  have hl : ∀ b, b < w.heap.size → lab' b = lab b := fun b hb => by rw [hlab]; simp only [if_pos hb]
  have hl2 : ∀ b, ¬ b < w.heap.size → b < w1.heap.size → lab' b = 5 + 5 * i := fun b hb h1 => by rw [hlab]; simp only [if_neg hb, if_pos h1]
  have hl3 : ∀ b, ¬ b < w.heap.size → ¬ b < w1.heap.size → lab' b = 6 + 5 * i := fun b hb h1 => by rw [hlab]; simp only [if_neg hb, if_neg h1]
  clear hlab
  refine ⟨lab', ⟨⟨ga, gc, so, sc, ?_, ?_, ?_⟩, (hl wl hwl).trans h.l0⟩, hl, HO⟩
  · rw [List.length_set]; exact (HO.block wl hwl (by have := h.l0; omega)).trans h1
  · refine GtOK.turn hi h2 _ rfl ?_ (by omega) hl (fun b hb hk => HO.block b hb (by rcases hk with hk | ⟨k, hk, hk2⟩ <;> omega))
    refine ⟨(HO.block _ hpb (by have := hp.lb; omega)).trans hp.cell, (hl _ hpb).trans hp.lb, ⟨F', ?_, ?_⟩, ⟨Fr G w1 w2, ?_, ?_⟩, hs⟩
    · refine X.same i1 (by omega) (fun b hb => ?_)
      have hb1 := X.lt i1 b hb
      refine (b3.block b (by omega)).trans (o2.block b hb1 (fun hg => ?_))
      have e1 := g2 b hg
      have e2 := g1.lt b hg
      rcases k1 b hb with hf | hf
      · have := f2 b hf; omega
      · omega
    · intro b hb
      have hb1 := X.lt i1 b hb
      by_cases hbw : b < w.heap.size
      · rw [hl b hbw]
        rcases k1 b hb with hf | hf
        · exact f2 b hf
        · omega
      · exact hl2 b hbw hb1
    · exact r2.same (by omega) (fun b hb => b3.block b (r2.lt b hb))
    · intro b hb
      rcases hb with hb | hb
      · exact (hl b (g1.lt b hb)).trans (g2 b hb)
      · exact hl3 b (by omega) (by omega)
  · exact h3.same hl (fun b hb hk => HO.block b hb (by rcases hk with hk | ⟨k, hk, hk2⟩ <;> omega))

/-- A step of a script. -/
structure OpS where
  kd : Int
  gt : Int
  pe : Int
  nn : Int
  tx : ByteArray
  bt : Int
  ln : Int
  hd : Hd
  cf : Cf
def opL (o : OpS) : List Value := [.int .i64 o.kd, .int .i64 o.gt, .int .i64 o.pe, .int .i64 o.nn, .string o.tx, .int .i64 o.bt, .int .i64 o.ln, .int .i64 o.hd.ds, .int .i64 o.hd.sr, .int .i64 o.hd.pr, .int .i64 o.hd.po, .int .i64 o.hd.fl, .bool o.hd.la, .int .i64 o.cf.cp, .int .i64 o.cf.bu, .int .i64 o.cf.n0, .int .i64 o.cf.n1, .int .i64 o.cf.n2, .int .i64 o.cf.n3]
def opV (o : OpS) : Value := .agg (opL o).toArray
structure OpOK (o : OpS) : Prop where
  gt : i64 o.gt
  pe : i64 o.pe
  nn : i64 o.nn
  bt : i64 o.bt
  ln : i64 o.ln
  tx : o.tx.size ≤ 140737488351232

/-- What a step on the gate of number i leaves. -/
def GPost (X : XGate) (w : World) (wl : Nat) (lab : Nat → Nat) (tb : Bool) (ev wv : Value) (ps : List Pr) (vals : List Value) (w' : World) : Prop :=
  ∃ lab' ps' vals', LC X.toXBase w' wl lab' tb ev wv ps' vals' ∧ ps'.length = ps.length ∧ vals'.length ≤ vals.length + 1 ∧ (∀ b, b < w.heap.size → lab' b = lab b) ∧ Off (fun b => lab b ≠ 7) w w'

set_option maxHeartbeats 3200000 in
theorem on_announce (X : XGate) {w : World} {wl : Nat} {lab : Nat → Nat} {ev wv : Value} {ps : List Pr} {vals : List Value} (h : LC X.toXBase w wl lab false ev wv ps vals) (i : Nat) (hi : i < ps.length) (o : OpS) (ho : OpOK o) (hkd : o.kd = 2) :
    Calls Tryz.prog 14 #[ptrV wl, ptrV ps[i].pb, opV o] w fun e w' => e = .returned (.bool true) ∧ GPost X w wl lab false ev wv ps vals w' := by
  obtain ⟨kd, gt, pe, nn, tx, bt, ln, hd, cf⟩ := o
  obtain ⟨ogt, ope, onn, obt, oln, otx⟩ := ho
  simp only [] at hkd ogt ope onn obt oln otx
  subst hkd
  obtain ⟨cp, bu, n0, n1, n2, n3⟩ := cf
  obtain ⟨ga, gc, so, sc, h1, h2, h3⟩ := h.ex
  have HH : Hid (LC X.toXBase w wl lab false ev wv ps vals) := h
  obtain ⟨p, hpe⟩ : ∃ p, p = ps[i] := ⟨_, rfl⟩
  have HPE : Hid (p = ps[i]) := hpe
  have hp : PrOK X.toXBase w lab i p := by rw [hpe]; exact h2.pr i hi
  rw [← hpe]
  clear hpe
  obtain ⟨F, f1, f2⟩ := hp.gx
  obtain ⟨G, g1, g2⟩ := hp.gy
  have hwl := lt_of_block h1
  have hpb := lt_of_block hp.cell
  have k1 := cell_of_row w wl 1 _ _ _ h1
  have HX : Hid (X.Inv w p.x p.sx F) := f1
  have HY : Hid (RGate w p.y p.sy G) := g1
  have HE : Hid (Sim p.sx p.sy) := hp.sim
  have HS : Hid (∀ b, F b → lab b = 5 + 5 * i) := f2
  have HSG : Hid (∀ b, G b → lab b = 6 + 5 * i) := g2
  have hpF : ¬ F p.pb := fun e => by have := f2 _ e; have := hp.lb; omega
  have hpG : ¬ G p.pb := fun e => by have := g2 _ e; have := hp.lb; omega
  have hwF : ¬ F wl := fun e => by have := f2 _ e; have := h.l0; omega
  have hwG : ¬ G wl := fun e => by have := g2 _ e; have := h.l0; omega
  have hoF : ¬ F w.heap.size := fun e => by have := X.lt f1 _ e; omega
  have hoG : ¬ G w.heap.size := fun e => by have := g1.lt _ e; omega
  have HI : Hid (i < ps.length) := hi
  have HPC : Hid (w.heap[p.pb]? = some (.cells #[ptrV p.x, ptrV p.y, p.tv] 55 (0, 0))) := hp.cell
  clear h h1 h2 h3 hp f1 f2 g1 g2
  obtain ⟨W0, hW0⟩ : ∃ W0, W0 = w.alloc (.cells #[.int .i64 2, .int .i64 gt, .int .i64 pe, .int .i64 nn, .string tx, .int .i64 bt, .int .i64 ln, .int .i64 hd.ds, .int .i64 hd.sr, .int .i64 hd.pr, .int .i64 hd.po, .int .i64 hd.fl, .bool hd.la, .int .i64 cp, .int .i64 bu, .int .i64 n0, .int .i64 n1, .int .i64 n2, .int .i64 n3] 43) := ⟨_, rfl⟩
  have HW0 : Hid (W0 = w.alloc (.cells #[.int .i64 2, .int .i64 gt, .int .i64 pe, .int .i64 nn, .string tx, .int .i64 bt, .int .i64 ln, .int .i64 hd.ds, .int .i64 hd.sr, .int .i64 hd.pr, .int .i64 hd.po, .int .i64 hd.fl, .bool hd.la, .int .i64 cp, .int .i64 bu, .int .i64 n0, .int .i64 n1, .int .i64 n2, .int .i64 n3] 43)) := hW0
  have hb0 : Below w.heap.size w W0 := by rw [hW0]; exact below_alloc _ _
  have hO0 : W0.heap[w.heap.size]? = some (.cells #[.int .i64 2, .int .i64 gt, .int .i64 pe, .int .i64 nn, .string tx, .int .i64 bt, .int .i64 ln, .int .i64 hd.ds, .int .i64 hd.sr, .int .i64 hd.pr, .int .i64 hd.po, .int .i64 hd.fl, .bool hd.la, .int .i64 cp, .int .i64 bu, .int .i64 n0, .int .i64 n1, .int .i64 n2, .int .i64 n3] 43 (0, 0)) := by rw [hW0]; exact heap_alloc_new w _
  have hz0 : W0.heap.size = w.heap.size + 1 := by rw [hW0]; simp
  clear hW0
  have HZ0 : Hid (W0.heap.size = w.heap.size + 1) := hz0
  have hoz : w.heap.size < W0.heap.size := by omega
  have hpz : p.pb < W0.heap.size := by omega
  have hwz : wl < W0.heap.size := by omega
  clear hz0
  have hP0 : W0.heap[p.pb]? = some (.cells #[ptrV p.x, ptrV p.y, p.tv] 55 (0, 0)) := (hb0.block _ hpb).trans HPC.out
  have HSS : Hid (∀ w' : World, w'.heap[w.heap.size]? = W0.heap[w.heap.size]? → w'.heap[p.pb]? = W0.heap[p.pb]? → (w'.cell? ⟨w.heap.size, 2, none⟩ = some (.int .i64 pe) ∧ w'.cell? ⟨w.heap.size, 3, none⟩ = some (.int .i64 nn) ∧ w'.cell? ⟨w.heap.size, 4, none⟩ = some (.string tx) ∧ w'.cell? ⟨w.heap.size, 5, none⟩ = some (.int .i64 bt) ∧ w'.cell? ⟨w.heap.size, 6, none⟩ = some (.int .i64 ln) ∧ w'.cell? ⟨p.pb, 0, none⟩ = some (.pointer (some ⟨p.x, 0, none⟩)) ∧ w'.cell? ⟨p.pb, 1, none⟩ = some (.pointer (some ⟨p.y, 0, none⟩)))) := fun w' e1 e2 =>
    ⟨cell_of_row w' w.heap.size 2 _ _ _ (e1.trans hO0), cell_of_row w' w.heap.size 3 _ _ _ (e1.trans hO0), cell_of_row w' w.heap.size 4 _ _ _ (e1.trans hO0), cell_of_row w' w.heap.size 5 _ _ _ (e1.trans hO0), cell_of_row w' w.heap.size 6 _ _ _ (e1.trans hO0), cell_of_row w' p.pb 0 _ _ _ (e2.trans hP0), cell_of_row w' p.pb 1 _ _ _ (e2.trans hP0)⟩
  have HO0 : Hid (W0.heap[w.heap.size]? = some (.cells #[.int .i64 2, .int .i64 gt, .int .i64 pe, .int .i64 nn, .string tx, .int .i64 bt, .int .i64 ln, .int .i64 hd.ds, .int .i64 hd.sr, .int .i64 hd.pr, .int .i64 hd.po, .int .i64 hd.fl, .bool hd.la, .int .i64 cp, .int .i64 bu, .int .i64 n0, .int .i64 n1, .int .i64 n2, .int .i64 n3] 43 (0, 0))) := hO0
  have HXC : Hid (∀ W, Below W0.heap.size W0 W → Calls Tryz.prog 22 #[.pointer (some ⟨p.x, 0, none⟩), .int .i64 pe, .agg #[.int .i64 bt, .int .i64 ln], .int .i64 nn] W fun e w' => ∃ a n c F' st', e = .returned (.tuple #[.slice a n c, .int .i64 (anE p.sx pe bt ln nn)]) ∧ ((anE p.sx pe bt ln nn) ≠ 0 → n = 0) ∧ Sim st' (anS p.sx pe bt ln nn) ∧ X.Inv w' p.x st' F' ∧ (∀ b, F' b → F b ∨ w.heap.size ≤ b) ∧ Off F W0 w' ∧ (w'.cell? ⟨w.heap.size, 2, none⟩ = some (.int .i64 pe) ∧ w'.cell? ⟨w.heap.size, 3, none⟩ = some (.int .i64 nn) ∧ w'.cell? ⟨w.heap.size, 4, none⟩ = some (.string tx) ∧ w'.cell? ⟨w.heap.size, 5, none⟩ = some (.int .i64 bt) ∧ w'.cell? ⟨w.heap.size, 6, none⟩ = some (.int .i64 ln) ∧ w'.cell? ⟨p.pb, 0, none⟩ = some (.pointer (some ⟨p.x, 0, none⟩)) ∧ w'.cell? ⟨p.pb, 1, none⟩ = some (.pointer (some ⟨p.y, 0, none⟩)))) := fun W hW => by
    have hI : X.Inv W p.x p.sx F := X.same HX.out (by have := hW.size; omega) (fun b hb => (hW.block b (by have := X.lt HX.out b hb; omega)).trans (hb0.block b (X.lt HX.out b hb)))
    have hc := X.announce pe bt ln nn hI ope obt oln onn
    unfold ptrV at hc
    refine hc.mono ?_
    rintro e w' ⟨a, n, c, F', st', rfl, q1, q2, q3, q4, q5⟩
    have hoff : Off F W0 w' := (Off.of hW).trans q5 (fun b hb => .inl hb)
    exact ⟨a, n, c, F', st', rfl, q1, q2, q3, fun b hb => by rcases q4 b hb with hf | hf; exact .inl hf; exact .inr (by have := hW.size; omega), hoff, HSS.out w' (hoff.block _ hoz hoF) (hoff.block _ hpz hpF)⟩
  have HS0 : Hid (W0.cell? ⟨w.heap.size, 2, none⟩ = some (.int .i64 pe) ∧ W0.cell? ⟨w.heap.size, 3, none⟩ = some (.int .i64 nn) ∧ W0.cell? ⟨w.heap.size, 4, none⟩ = some (.string tx) ∧ W0.cell? ⟨w.heap.size, 5, none⟩ = some (.int .i64 bt) ∧ W0.cell? ⟨w.heap.size, 6, none⟩ = some (.int .i64 ln) ∧ W0.cell? ⟨p.pb, 0, none⟩ = some (.pointer (some ⟨p.x, 0, none⟩)) ∧ W0.cell? ⟨p.pb, 1, none⟩ = some (.pointer (some ⟨p.y, 0, none⟩))) := HSS.out W0 rfl rfl
  clear hO0 hP0
  unfold ptrV
  obtain ⟨K, hK⟩ : ∃ K : World → Prop, K = fun w' => GPost X w wl lab false ev wv ps vals w' := ⟨_, rfl⟩
  have HK : Hid (K = fun w' => GPost X w wl lab false ev wv ps vals w') := hK
  suffices hsuff : Calls Tryz.prog 14 #[.pointer (some ⟨wl, 0, none⟩), .pointer (some ⟨p.pb, 0, none⟩), opV ⟨2, gt, pe, nn, tx, bt, ln, hd, ⟨cp, bu, n0, n1, n2, n3⟩⟩] w fun e w' => e = .returned (.bool true) ∧ K w' by
    refine hsuff.mono ?_
    rintro e w' ⟨he, hkk⟩
    rw [hK] at hkk
    exact ⟨he, hkk⟩
  clear hK
  simp only [opV, opL]
  go_enter Tryz.func14, Tryz.ntmps14
  go_upto_region 3 with fail
  rw [← HW0.out]
  obtain ⟨x2, x3, x4, x5, x6, x7, x8⟩ := HS0.out
  go_region_held3 (fun w' => w'.cell? ⟨w.heap.size, 2, none⟩ = some (.int .i64 pe) ∧ w'.cell? ⟨w.heap.size, 3, none⟩ = some (.int .i64 nn) ∧ w'.cell? ⟨w.heap.size, 4, none⟩ = some (.string tx) ∧ w'.cell? ⟨w.heap.size, 5, none⟩ = some (.int .i64 bt) ∧ w'.cell? ⟨w.heap.size, 6, none⟩ = some (.int .i64 ln) ∧ w'.cell? ⟨p.pb, 0, none⟩ = some (.pointer (some ⟨p.x, 0, none⟩)) ∧ w'.cell? ⟨p.pb, 1, none⟩ = some (.pointer (some ⟨p.y, 0, none⟩)))
    (first | assumption | exact HSS.out _ rfl rfl)
    (first | (go_at_call 22; refine (HXC.out _ ?_).mono ?_; (exact (Below.refl _ _).drew); rintro e w1 ⟨a, n, c, F', st', rfl, q1, q2, q3, q4, q5, hS1⟩))
  have ho1 : w1.heap[w.heap.size]? = W0.heap[w.heap.size]? := q5.block _ hoz hoF
  have hp1 : w1.heap[p.pb]? = W0.heap[p.pb]? := q5.block _ hpz hpF
  have hw1 : w1.heap[wl]? = W0.heap[wl]? := q5.block _ hwz hwF
  have hz1 := q5.size
  have HY1 : Hid (RGate w1 p.y p.sy G) := HY.out.same (by omega) (fun b hb => (q5.block b (by have := HY.out.lt b hb; omega) (fun hf => by have := HS.out b hf; have := HSG.out b hb; omega)).trans (hb0.block b (HY.out.lt b hb)))
  have HYC : Hid (∀ W, Below w1.heap.size w1 W → Calls Tryz.prog 23 #[.pointer (some ⟨p.y, 0, none⟩), .int .i64 pe, .agg #[.int .i64 bt, .int .i64 ln], .int .i64 nn] W fun e w' => e = .returned (.int .i64 (anE p.sx pe bt ln nn)) ∧ RGate w' p.y (anS p.sy pe bt ln nn) (Fr G w1 w') ∧ Off G w1 w' ∧ (w'.cell? ⟨w.heap.size, 2, none⟩ = some (.int .i64 pe) ∧ w'.cell? ⟨w.heap.size, 3, none⟩ = some (.int .i64 nn) ∧ w'.cell? ⟨w.heap.size, 4, none⟩ = some (.string tx) ∧ w'.cell? ⟨w.heap.size, 5, none⟩ = some (.int .i64 bt) ∧ w'.cell? ⟨w.heap.size, 6, none⟩ = some (.int .i64 ln) ∧ w'.cell? ⟨p.pb, 0, none⟩ = some (.pointer (some ⟨p.x, 0, none⟩)) ∧ w'.cell? ⟨p.pb, 1, none⟩ = some (.pointer (some ⟨p.y, 0, none⟩)))) := fun W hW => by
    have hR : RGate W p.y p.sy G := HY1.out.same hW.size (fun b hb => hW.block b (HY1.out.lt b hb))
    refine (refAnnounce_any p.y p.sy G pe bt ln nn W hR ).mono ?_
    rintro e w' ⟨rfl, q1, q2⟩
    have hoff : Off G w1 w' := (Off.of hW).trans q2 (fun b hb => .inl hb)
    refine ⟨by rw [HE.out.anE], q1.mono (fun b hb => ?_) (fun b hb => ?_), hoff, HSS.out w' ((hoff.block _ (by omega) hoG).trans ho1) ((hoff.block _ (by omega) hpG).trans hp1)⟩
    · rcases hb with hb | hb
      · exact .inl hb
      · exact .inr ⟨by have := hW.size; omega, hb.2⟩
    · rcases hb with hb | hb
      · have := HY1.out.lt b hb; have := hoff.size; omega
      · exact hb.2
  have Q1 : Hid ((anE p.sx pe bt ln nn) ≠ 0 → n = 0) := q1
  have Q2 : Hid (Sim st' (anS p.sx pe bt ln nn)) := q2
  have Q3 : Hid (X.Inv w1 p.x st' F') := q3
  have Q4 : Hid (∀ b, F' b → F b ∨ w.heap.size ≤ b) := q4
  have Q5 : Hid (Off F W0 w1) := q5
  clear q1 q2 q3 q4 q5 HXC
  clear x2 x3 x4 x5 x6 x7 x8 hS1
  have HE2 : Hid (Sim (anS p.sx pe bt ln nn) (anS p.sy pe bt ln nn)) := HE.out.anS pe bt ln nn
  generalize (anE p.sx pe bt ln nn) = er at *
  generalize (anS p.sx pe bt ln nn) = tx1 at *
  generalize (anS p.sy pe bt ln nn) = ty1 at *
  go_upto_region 4 with fail
  obtain ⟨x2, x3, x4, x5, x6, x7, x8⟩ := HSS.out w1 ho1 hp1
  go_region_held3 (fun w' => w'.cell? ⟨w.heap.size, 2, none⟩ = some (.int .i64 pe) ∧ w'.cell? ⟨w.heap.size, 3, none⟩ = some (.int .i64 nn) ∧ w'.cell? ⟨w.heap.size, 4, none⟩ = some (.string tx) ∧ w'.cell? ⟨w.heap.size, 5, none⟩ = some (.int .i64 bt) ∧ w'.cell? ⟨w.heap.size, 6, none⟩ = some (.int .i64 ln) ∧ w'.cell? ⟨p.pb, 0, none⟩ = some (.pointer (some ⟨p.x, 0, none⟩)) ∧ w'.cell? ⟨p.pb, 1, none⟩ = some (.pointer (some ⟨p.y, 0, none⟩)))
    (first | assumption | exact HSS.out _ ho1 hp1)
    (first | (go_at_call 23; refine (HYC.out _ ?_).mono ?_; (exact (Below.refl _ _).drew); rintro e w2 ⟨rfl, q6, q7, hS2⟩))
  have ho2 : w2.heap[w.heap.size]? = some (.cells #[.int .i64 2, .int .i64 gt, .int .i64 pe, .int .i64 nn, .string tx, .int .i64 bt, .int .i64 ln, .int .i64 hd.ds, .int .i64 hd.sr, .int .i64 hd.pr, .int .i64 hd.po, .int .i64 hd.fl, .bool hd.la, .int .i64 cp, .int .i64 bu, .int .i64 n0, .int .i64 n1, .int .i64 n2, .int .i64 n3] 43 (0, 0)) := (q7.block _ (by omega) hoG).trans (ho1.trans HO0.out)
  have y7 := cell_of_row w2 w.heap.size 7 _ _ _ ho2
  have y8 := cell_of_row w2 w.heap.size 8 _ _ _ ho2
  have y9 := cell_of_row w2 w.heap.size 9 _ _ _ ho2
  have y10 := cell_of_row w2 w.heap.size 10 _ _ _ ho2
  have y11 := cell_of_row w2 w.heap.size 11 _ _ _ ho2
  have y12 := cell_of_row w2 w.heap.size 12 _ _ _ ho2
  have kw : w2.cell? ⟨wl, 1, none⟩ = some (.bool false) := (World.cell?_of_block (w := w) (a := ⟨wl, 1, none⟩) ((q7.block _ (by omega) hwG).trans (hw1.trans (hb0.block _ hwl)))).trans k1
  have hz2 := q7.size
  have hch := changed_any wl p.pb a n c er hd w2 kw (by omega) Q1.out
  unfold ptrV at hch
  have HCH : Hid (Calls Tryz.prog 24 #[.pointer (some ⟨wl, 0, none⟩), .pointer (some ⟨p.pb, 0, none⟩), .slice a n c, .int .i64 er, .int .i64 er, .agg #[.int .i64 hd.ds, .int .i64 hd.sr, .int .i64 hd.pr, .int .i64 hd.po, .int .i64 hd.fl, .bool hd.la]] w2 fun e w' => e = .returned (.bool true) ∧ Below w2.heap.size w2 w') := hch
  have Q6 : Hid (RGate w2 p.y ty1 (Fr G w1 w2)) := q6
  have Q7 : Hid (Off G w1 w2) := q7
  clear hch hS2 q6 q7 x2 x3 x4 x5 x6 x7 x8 HYC ho2
  go_wp2_with (go_at_call 24; refine HCH.out.mono ?_; rintro e w3 ⟨rfl, hb3⟩)
  go_ret
  refine ⟨rfl, ?_⟩
  rw [HK.out]
  have e := HPE.out
  have z2 := HY.out
  have z3 := Q3.out
  have z4 := Q6.out
  rw [e] at z2 z3 z4
  obtain ⟨lab', r1, r2, r3⟩ := LC.turned HH.out HI.out HS.out z2 HSG.out z3 Q4.out ((Off.of hb0).trans Q5.out (fun b hb => .inl hb)) z4 Q7.out (Q2.out.trans HE2.out) hb3
  exact ⟨lab', _, vals, r1, by rw [List.length_set], Nat.le_succ _, r2, r3.mono (fun b hb => by omega)⟩
end Go.Proofs.YtgkiknfpcbcnnaaGreat

namespace Go.Proofs.YtgkiknfpcbcnnaaGreat
open Go.RowKit
set_option maxRecDepth 20000

set_option maxHeartbeats 3200000 in
theorem on_withdraw (X : XGate) {w : World} {wl : Nat} {lab : Nat → Nat} {ev wv : Value} {ps : List Pr} {vals : List Value} (h : LC X.toXBase w wl lab false ev wv ps vals) (i : Nat) (hi : i < ps.length) (o : OpS) (ho : OpOK o) (hkd : o.kd = 3) :
    Calls Tryz.prog 14 #[ptrV wl, ptrV ps[i].pb, opV o] w fun e w' => e = .returned (.bool true) ∧ GPost X w wl lab false ev wv ps vals w' := by
  obtain ⟨kd, gt, pe, nn, tx, bt, ln, hd, cf⟩ := o
  obtain ⟨ogt, ope, onn, obt, oln, otx⟩ := ho
  simp only [] at hkd ogt ope onn obt oln otx
  subst hkd
  obtain ⟨cp, bu, n0, n1, n2, n3⟩ := cf
  obtain ⟨ga, gc, so, sc, h1, h2, h3⟩ := h.ex
  have HH : Hid (LC X.toXBase w wl lab false ev wv ps vals) := h
  obtain ⟨p, hpe⟩ : ∃ p, p = ps[i] := ⟨_, rfl⟩
  have HPE : Hid (p = ps[i]) := hpe
  have hp : PrOK X.toXBase w lab i p := by rw [hpe]; exact h2.pr i hi
  rw [← hpe]
  clear hpe
  obtain ⟨F, f1, f2⟩ := hp.gx
  obtain ⟨G, g1, g2⟩ := hp.gy
  have hwl := lt_of_block h1
  have hpb := lt_of_block hp.cell
  have k1 := cell_of_row w wl 1 _ _ _ h1
  have HX : Hid (X.Inv w p.x p.sx F) := f1
  have HY : Hid (RGate w p.y p.sy G) := g1
  have HE : Hid (Sim p.sx p.sy) := hp.sim
  have HS : Hid (∀ b, F b → lab b = 5 + 5 * i) := f2
  have HSG : Hid (∀ b, G b → lab b = 6 + 5 * i) := g2
  have hpF : ¬ F p.pb := fun e => by have := f2 _ e; have := hp.lb; omega
  have hpG : ¬ G p.pb := fun e => by have := g2 _ e; have := hp.lb; omega
  have hwF : ¬ F wl := fun e => by have := f2 _ e; have := h.l0; omega
  have hwG : ¬ G wl := fun e => by have := g2 _ e; have := h.l0; omega
  have hoF : ¬ F w.heap.size := fun e => by have := X.lt f1 _ e; omega
  have hoG : ¬ G w.heap.size := fun e => by have := g1.lt _ e; omega
  have HI : Hid (i < ps.length) := hi
  have HPC : Hid (w.heap[p.pb]? = some (.cells #[ptrV p.x, ptrV p.y, p.tv] 55 (0, 0))) := hp.cell
  clear h h1 h2 h3 hp f1 f2 g1 g2
  obtain ⟨W0, hW0⟩ : ∃ W0, W0 = w.alloc (.cells #[.int .i64 3, .int .i64 gt, .int .i64 pe, .int .i64 nn, .string tx, .int .i64 bt, .int .i64 ln, .int .i64 hd.ds, .int .i64 hd.sr, .int .i64 hd.pr, .int .i64 hd.po, .int .i64 hd.fl, .bool hd.la, .int .i64 cp, .int .i64 bu, .int .i64 n0, .int .i64 n1, .int .i64 n2, .int .i64 n3] 43) := ⟨_, rfl⟩
  have HW0 : Hid (W0 = w.alloc (.cells #[.int .i64 3, .int .i64 gt, .int .i64 pe, .int .i64 nn, .string tx, .int .i64 bt, .int .i64 ln, .int .i64 hd.ds, .int .i64 hd.sr, .int .i64 hd.pr, .int .i64 hd.po, .int .i64 hd.fl, .bool hd.la, .int .i64 cp, .int .i64 bu, .int .i64 n0, .int .i64 n1, .int .i64 n2, .int .i64 n3] 43)) := hW0
  have hb0 : Below w.heap.size w W0 := by rw [hW0]; exact below_alloc _ _
  have hO0 : W0.heap[w.heap.size]? = some (.cells #[.int .i64 3, .int .i64 gt, .int .i64 pe, .int .i64 nn, .string tx, .int .i64 bt, .int .i64 ln, .int .i64 hd.ds, .int .i64 hd.sr, .int .i64 hd.pr, .int .i64 hd.po, .int .i64 hd.fl, .bool hd.la, .int .i64 cp, .int .i64 bu, .int .i64 n0, .int .i64 n1, .int .i64 n2, .int .i64 n3] 43 (0, 0)) := by rw [hW0]; exact heap_alloc_new w _
  have hz0 : W0.heap.size = w.heap.size + 1 := by rw [hW0]; simp
  clear hW0
  have HZ0 : Hid (W0.heap.size = w.heap.size + 1) := hz0
  have hoz : w.heap.size < W0.heap.size := by omega
  have hpz : p.pb < W0.heap.size := by omega
  have hwz : wl < W0.heap.size := by omega
  clear hz0
  have hP0 : W0.heap[p.pb]? = some (.cells #[ptrV p.x, ptrV p.y, p.tv] 55 (0, 0)) := (hb0.block _ hpb).trans HPC.out
  have HSS : Hid (∀ w' : World, w'.heap[w.heap.size]? = W0.heap[w.heap.size]? → w'.heap[p.pb]? = W0.heap[p.pb]? → (w'.cell? ⟨w.heap.size, 2, none⟩ = some (.int .i64 pe) ∧ w'.cell? ⟨w.heap.size, 3, none⟩ = some (.int .i64 nn) ∧ w'.cell? ⟨w.heap.size, 4, none⟩ = some (.string tx) ∧ w'.cell? ⟨w.heap.size, 5, none⟩ = some (.int .i64 bt) ∧ w'.cell? ⟨w.heap.size, 6, none⟩ = some (.int .i64 ln) ∧ w'.cell? ⟨p.pb, 0, none⟩ = some (.pointer (some ⟨p.x, 0, none⟩)) ∧ w'.cell? ⟨p.pb, 1, none⟩ = some (.pointer (some ⟨p.y, 0, none⟩)))) := fun w' e1 e2 =>
    ⟨cell_of_row w' w.heap.size 2 _ _ _ (e1.trans hO0), cell_of_row w' w.heap.size 3 _ _ _ (e1.trans hO0), cell_of_row w' w.heap.size 4 _ _ _ (e1.trans hO0), cell_of_row w' w.heap.size 5 _ _ _ (e1.trans hO0), cell_of_row w' w.heap.size 6 _ _ _ (e1.trans hO0), cell_of_row w' p.pb 0 _ _ _ (e2.trans hP0), cell_of_row w' p.pb 1 _ _ _ (e2.trans hP0)⟩
  have HO0 : Hid (W0.heap[w.heap.size]? = some (.cells #[.int .i64 3, .int .i64 gt, .int .i64 pe, .int .i64 nn, .string tx, .int .i64 bt, .int .i64 ln, .int .i64 hd.ds, .int .i64 hd.sr, .int .i64 hd.pr, .int .i64 hd.po, .int .i64 hd.fl, .bool hd.la, .int .i64 cp, .int .i64 bu, .int .i64 n0, .int .i64 n1, .int .i64 n2, .int .i64 n3] 43 (0, 0))) := hO0
  have HXC : Hid (∀ W, Below W0.heap.size W0 W → Calls Tryz.prog 25 #[.pointer (some ⟨p.x, 0, none⟩), .int .i64 pe, .agg #[.int .i64 bt, .int .i64 ln]] W fun e w' => ∃ a n c F' st', e = .returned (.tuple #[.slice a n c, .int .i64 (wiE p.sx pe bt ln)]) ∧ ((wiE p.sx pe bt ln) ≠ 0 → n = 0) ∧ Sim st' (wiS p.sx pe bt ln) ∧ X.Inv w' p.x st' F' ∧ (∀ b, F' b → F b ∨ w.heap.size ≤ b) ∧ Off F W0 w' ∧ (w'.cell? ⟨w.heap.size, 2, none⟩ = some (.int .i64 pe) ∧ w'.cell? ⟨w.heap.size, 3, none⟩ = some (.int .i64 nn) ∧ w'.cell? ⟨w.heap.size, 4, none⟩ = some (.string tx) ∧ w'.cell? ⟨w.heap.size, 5, none⟩ = some (.int .i64 bt) ∧ w'.cell? ⟨w.heap.size, 6, none⟩ = some (.int .i64 ln) ∧ w'.cell? ⟨p.pb, 0, none⟩ = some (.pointer (some ⟨p.x, 0, none⟩)) ∧ w'.cell? ⟨p.pb, 1, none⟩ = some (.pointer (some ⟨p.y, 0, none⟩)))) := fun W hW => by
    have hI : X.Inv W p.x p.sx F := X.same HX.out (by have := hW.size; omega) (fun b hb => (hW.block b (by have := X.lt HX.out b hb; omega)).trans (hb0.block b (X.lt HX.out b hb)))
    have hc := X.withdraw pe bt ln hI ope obt oln
    unfold ptrV at hc
    refine hc.mono ?_
    rintro e w' ⟨a, n, c, F', st', rfl, q1, q2, q3, q4, q5⟩
    have hoff : Off F W0 w' := (Off.of hW).trans q5 (fun b hb => .inl hb)
    exact ⟨a, n, c, F', st', rfl, q1, q2, q3, fun b hb => by rcases q4 b hb with hf | hf; exact .inl hf; exact .inr (by have := hW.size; omega), hoff, HSS.out w' (hoff.block _ hoz hoF) (hoff.block _ hpz hpF)⟩
  have HS0 : Hid (W0.cell? ⟨w.heap.size, 2, none⟩ = some (.int .i64 pe) ∧ W0.cell? ⟨w.heap.size, 3, none⟩ = some (.int .i64 nn) ∧ W0.cell? ⟨w.heap.size, 4, none⟩ = some (.string tx) ∧ W0.cell? ⟨w.heap.size, 5, none⟩ = some (.int .i64 bt) ∧ W0.cell? ⟨w.heap.size, 6, none⟩ = some (.int .i64 ln) ∧ W0.cell? ⟨p.pb, 0, none⟩ = some (.pointer (some ⟨p.x, 0, none⟩)) ∧ W0.cell? ⟨p.pb, 1, none⟩ = some (.pointer (some ⟨p.y, 0, none⟩))) := HSS.out W0 rfl rfl
  clear hO0 hP0
  unfold ptrV
  obtain ⟨K, hK⟩ : ∃ K : World → Prop, K = fun w' => GPost X w wl lab false ev wv ps vals w' := ⟨_, rfl⟩
  have HK : Hid (K = fun w' => GPost X w wl lab false ev wv ps vals w') := hK
  suffices hsuff : Calls Tryz.prog 14 #[.pointer (some ⟨wl, 0, none⟩), .pointer (some ⟨p.pb, 0, none⟩), opV ⟨3, gt, pe, nn, tx, bt, ln, hd, ⟨cp, bu, n0, n1, n2, n3⟩⟩] w fun e w' => e = .returned (.bool true) ∧ K w' by
    refine hsuff.mono ?_
    rintro e w' ⟨he, hkk⟩
    rw [hK] at hkk
    exact ⟨he, hkk⟩
  clear hK
  simp only [opV, opL]
  go_enter Tryz.func14, Tryz.ntmps14
  go_upto_region 7 with fail
  rw [← HW0.out]
  obtain ⟨x2, x3, x4, x5, x6, x7, x8⟩ := HS0.out
  go_region_held3 (fun w' => w'.cell? ⟨w.heap.size, 2, none⟩ = some (.int .i64 pe) ∧ w'.cell? ⟨w.heap.size, 3, none⟩ = some (.int .i64 nn) ∧ w'.cell? ⟨w.heap.size, 4, none⟩ = some (.string tx) ∧ w'.cell? ⟨w.heap.size, 5, none⟩ = some (.int .i64 bt) ∧ w'.cell? ⟨w.heap.size, 6, none⟩ = some (.int .i64 ln) ∧ w'.cell? ⟨p.pb, 0, none⟩ = some (.pointer (some ⟨p.x, 0, none⟩)) ∧ w'.cell? ⟨p.pb, 1, none⟩ = some (.pointer (some ⟨p.y, 0, none⟩)))
    (first | assumption | exact HSS.out _ rfl rfl)
    (first | (go_at_call 25; refine (HXC.out _ ?_).mono ?_; (exact (Below.refl _ _).drew); rintro e w1 ⟨a, n, c, F', st', rfl, q1, q2, q3, q4, q5, hS1⟩))
  have ho1 : w1.heap[w.heap.size]? = W0.heap[w.heap.size]? := q5.block _ hoz hoF
  have hp1 : w1.heap[p.pb]? = W0.heap[p.pb]? := q5.block _ hpz hpF
  have hw1 : w1.heap[wl]? = W0.heap[wl]? := q5.block _ hwz hwF
  have hz1 := q5.size
  have HY1 : Hid (RGate w1 p.y p.sy G) := HY.out.same (by omega) (fun b hb => (q5.block b (by have := HY.out.lt b hb; omega) (fun hf => by have := HS.out b hf; have := HSG.out b hb; omega)).trans (hb0.block b (HY.out.lt b hb)))
  have HYC : Hid (∀ W, Below w1.heap.size w1 W → Calls Tryz.prog 26 #[.pointer (some ⟨p.y, 0, none⟩), .int .i64 pe, .agg #[.int .i64 bt, .int .i64 ln]] W fun e w' => e = .returned (.int .i64 (wiE p.sx pe bt ln)) ∧ RGate w' p.y (wiS p.sy pe bt ln) (Fr G w1 w') ∧ Off G w1 w' ∧ (w'.cell? ⟨w.heap.size, 2, none⟩ = some (.int .i64 pe) ∧ w'.cell? ⟨w.heap.size, 3, none⟩ = some (.int .i64 nn) ∧ w'.cell? ⟨w.heap.size, 4, none⟩ = some (.string tx) ∧ w'.cell? ⟨w.heap.size, 5, none⟩ = some (.int .i64 bt) ∧ w'.cell? ⟨w.heap.size, 6, none⟩ = some (.int .i64 ln) ∧ w'.cell? ⟨p.pb, 0, none⟩ = some (.pointer (some ⟨p.x, 0, none⟩)) ∧ w'.cell? ⟨p.pb, 1, none⟩ = some (.pointer (some ⟨p.y, 0, none⟩)))) := fun W hW => by
    have hR : RGate W p.y p.sy G := HY1.out.same hW.size (fun b hb => hW.block b (HY1.out.lt b hb))
    refine (refWithdraw_any p.y p.sy G pe bt ln W hR ).mono ?_
    rintro e w' ⟨rfl, q1, q2⟩
    have hoff : Off G w1 w' := (Off.of hW).trans q2 (fun b hb => .inl hb)
    refine ⟨by rw [HE.out.wiE], q1.mono (fun b hb => ?_) (fun b hb => ?_), hoff, HSS.out w' ((hoff.block _ (by omega) hoG).trans ho1) ((hoff.block _ (by omega) hpG).trans hp1)⟩
    · rcases hb with hb | hb
      · exact .inl hb
      · exact .inr ⟨by have := hW.size; omega, hb.2⟩
    · rcases hb with hb | hb
      · have := HY1.out.lt b hb; have := hoff.size; omega
      · exact hb.2
  have Q1 : Hid ((wiE p.sx pe bt ln) ≠ 0 → n = 0) := q1
  have Q2 : Hid (Sim st' (wiS p.sx pe bt ln)) := q2
  have Q3 : Hid (X.Inv w1 p.x st' F') := q3
  have Q4 : Hid (∀ b, F' b → F b ∨ w.heap.size ≤ b) := q4
  have Q5 : Hid (Off F W0 w1) := q5
  clear q1 q2 q3 q4 q5 HXC
  clear x2 x3 x4 x5 x6 x7 x8 hS1
  have HE2 : Hid (Sim (wiS p.sx pe bt ln) (wiS p.sy pe bt ln)) := HE.out.wiS pe bt ln
  generalize (wiE p.sx pe bt ln) = er at *
  generalize (wiS p.sx pe bt ln) = tx1 at *
  generalize (wiS p.sy pe bt ln) = ty1 at *
  go_upto_region 8 with fail
  obtain ⟨x2, x3, x4, x5, x6, x7, x8⟩ := HSS.out w1 ho1 hp1
  go_region_held3 (fun w' => w'.cell? ⟨w.heap.size, 2, none⟩ = some (.int .i64 pe) ∧ w'.cell? ⟨w.heap.size, 3, none⟩ = some (.int .i64 nn) ∧ w'.cell? ⟨w.heap.size, 4, none⟩ = some (.string tx) ∧ w'.cell? ⟨w.heap.size, 5, none⟩ = some (.int .i64 bt) ∧ w'.cell? ⟨w.heap.size, 6, none⟩ = some (.int .i64 ln) ∧ w'.cell? ⟨p.pb, 0, none⟩ = some (.pointer (some ⟨p.x, 0, none⟩)) ∧ w'.cell? ⟨p.pb, 1, none⟩ = some (.pointer (some ⟨p.y, 0, none⟩)))
    (first | assumption | exact HSS.out _ ho1 hp1)
    (first | (go_at_call 26; refine (HYC.out _ ?_).mono ?_; (exact (Below.refl _ _).drew); rintro e w2 ⟨rfl, q6, q7, hS2⟩))
  have ho2 : w2.heap[w.heap.size]? = some (.cells #[.int .i64 3, .int .i64 gt, .int .i64 pe, .int .i64 nn, .string tx, .int .i64 bt, .int .i64 ln, .int .i64 hd.ds, .int .i64 hd.sr, .int .i64 hd.pr, .int .i64 hd.po, .int .i64 hd.fl, .bool hd.la, .int .i64 cp, .int .i64 bu, .int .i64 n0, .int .i64 n1, .int .i64 n2, .int .i64 n3] 43 (0, 0)) := (q7.block _ (by omega) hoG).trans (ho1.trans HO0.out)
  have y7 := cell_of_row w2 w.heap.size 7 _ _ _ ho2
  have y8 := cell_of_row w2 w.heap.size 8 _ _ _ ho2
  have y9 := cell_of_row w2 w.heap.size 9 _ _ _ ho2
  have y10 := cell_of_row w2 w.heap.size 10 _ _ _ ho2
  have y11 := cell_of_row w2 w.heap.size 11 _ _ _ ho2
  have y12 := cell_of_row w2 w.heap.size 12 _ _ _ ho2
  have kw : w2.cell? ⟨wl, 1, none⟩ = some (.bool false) := (World.cell?_of_block (w := w) (a := ⟨wl, 1, none⟩) ((q7.block _ (by omega) hwG).trans (hw1.trans (hb0.block _ hwl)))).trans k1
  have hz2 := q7.size
  have hch := changed_any wl p.pb a n c er hd w2 kw (by omega) Q1.out
  unfold ptrV at hch
  have HCH : Hid (Calls Tryz.prog 24 #[.pointer (some ⟨wl, 0, none⟩), .pointer (some ⟨p.pb, 0, none⟩), .slice a n c, .int .i64 er, .int .i64 er, .agg #[.int .i64 hd.ds, .int .i64 hd.sr, .int .i64 hd.pr, .int .i64 hd.po, .int .i64 hd.fl, .bool hd.la]] w2 fun e w' => e = .returned (.bool true) ∧ Below w2.heap.size w2 w') := hch
  have Q6 : Hid (RGate w2 p.y ty1 (Fr G w1 w2)) := q6
  have Q7 : Hid (Off G w1 w2) := q7
  clear hch hS2 q6 q7 x2 x3 x4 x5 x6 x7 x8 HYC ho2
  go_wp2_with (go_at_call 24; refine HCH.out.mono ?_; rintro e w3 ⟨rfl, hb3⟩)
  go_ret
  refine ⟨rfl, ?_⟩
  rw [HK.out]
  have e := HPE.out
  have z2 := HY.out
  have z3 := Q3.out
  have z4 := Q6.out
  rw [e] at z2 z3 z4
  obtain ⟨lab', r1, r2, r3⟩ := LC.turned HH.out HI.out HS.out z2 HSG.out z3 Q4.out ((Off.of hb0).trans Q5.out (fun b hb => .inl hb)) z4 Q7.out (Q2.out.trans HE2.out) hb3
  exact ⟨lab', _, vals, r1, by rw [List.length_set], Nat.le_succ _, r2, r3.mono (fun b hb => by omega)⟩
end Go.Proofs.YtgkiknfpcbcnnaaGreat
