import Derived.Test.YtgkiknfpcbcnnabGreatScf
import Derived.Test.YtgkiknfpcbcnnabGreatSce
namespace Go.Proofs.YtgkiknfpcbcnnabGreat
open Go.RowKit
set_option maxRecDepth 20000

/-- What is told to the second gate: the same, the other way round. -/
theorem not_in_drop {α : Type} {R : α → α → Prop} {l : List α} (hp : l.Pairwise R) {i : Nat} (hi : i < l.length) : ∀ a ∈ l.drop (i + 1), R l[i] a := by
  intro a ha
  obtain ⟨j, hj, rfl⟩ := List.getElem_of_mem ha
  rw [List.length_drop] at hj
  rw [List.getElem_drop]
  exact List.pairwise_iff_getElem.1 hp i (i + 1 + j) hi (by omega) (by omega)
theorem saS_back {l : List Rl} (hp : l.Pairwise fun r q => ¬ (r.pe = q.pe ∧ r.tx = q.tx)) (h24 : l.length ≤ 24) {i : Nat} (hi : i < l.length) : saS (l.drop (i + 1)).reverse l[i].pe l[i].tx l[i].ac = (l.drop i).reverse := by
  have hn : ¬ plC (l.drop (i + 1)).reverse l[i].pe l[i].tx < (l.drop (i + 1)).reverse.length := by
    intro hlt
    have hat := plC_at hlt
    have hm : (l.drop (i + 1)).reverse[plC (l.drop (i + 1)).reverse l[i].pe l[i].tx] ∈ l.drop (i + 1) := List.mem_reverse.1 (List.getElem_mem hlt)
    exact not_in_drop hp hi _ hm ⟨hat.1.symm, hat.2.symm⟩
  unfold saS
  rw [if_neg hn, if_neg (by simp; omega)]
  rw [List.drop_eq_getElem_cons hi, List.reverse_cons]
theorem roS_back {l : List Rt} (hp : l.Pairwise fun r q => ¬ (r.pe = q.pe ∧ r.bt = q.bt ∧ r.ln = q.ln)) (h24 : l.length ≤ 24) {i : Nat} (hi : i < l.length) : roS (l.drop (i + 1)).reverse l[i].pe l[i].bt l[i].ln l[i].pa = (l.drop i).reverse := by
  have hn : ¬ plR (l.drop (i + 1)).reverse l[i].pe l[i].bt l[i].ln < (l.drop (i + 1)).reverse.length := by
    intro hlt
    have hat := plR_at hlt
    have hm : (l.drop (i + 1)).reverse[plR (l.drop (i + 1)).reverse l[i].pe l[i].bt l[i].ln] ∈ l.drop (i + 1) := List.mem_reverse.1 (List.getElem_mem hlt)
    exact not_in_drop hp hi _ hm ⟨hat.1.symm, hat.2.1.symm, hat.2.2.symm⟩
  unfold roS
  rw [if_neg hn, if_neg (by simp; omega)]
  rw [List.drop_eq_getElem_cons hi, List.reverse_cons]

/-- Two gates that are played, the second one younger: what is asked of both in turn. -/
theorem ask_four {X : XGate} {B : Nat} {W w5 : World} {r x q y : Nat} {c d : Cf} {hd hd' : Hd} {gs gs' : Nat → Option Obj} {rts rts' : List Rt} {rls rls' : List Rl} (h : RunI X B W r x c false hd gs rts rls) (hb : Below W.heap.size W w5) (h' : RunI X W.heap.size w5 q y d false hd' gs' rts' rls') :
    Calls Tryz.prog 10 #[.pointer (some ⟨x, 0, none⟩)] w5 fun e w6 => ∃ ao ac, e = .returned (.slice ao rls.length ac) ∧ w6.cell? ⟨q, 0, none⟩ = some (.pointer (some ⟨y, 0, none⟩)) ∧
      Calls Tryz.prog 10 #[.pointer (some ⟨y, 0, none⟩)] w6 fun e w7 => ∃ bo bc, e = .returned (.slice bo rls'.length bc) ∧ w7.cell? ⟨r, 0, none⟩ = some (.pointer (some ⟨x, 0, none⟩)) ∧
        Calls Tryz.prog 15 #[.pointer (some ⟨x, 0, none⟩)] w7 fun e w8 => ∃ co cc, e = .returned (.slice co (tabS ⟨c, rts, rls⟩).length cc) ∧ w8.cell? ⟨q, 0, none⟩ = some (.pointer (some ⟨y, 0, none⟩)) ∧
          Calls Tryz.prog 15 #[.pointer (some ⟨y, 0, none⟩)] w8 fun e w9 => ∃ d0 dc, e = .returned (.slice d0 (tabS ⟨d, rts', rls'⟩).length dc) ∧
            TRow w9 0 (.slice ao rls.length ac) (stats ⟨c, rts, rls⟩) ∧ TRow w9 0 (.slice bo rls'.length bc) (stats ⟨d, rts', rls'⟩) ∧ ERow w9 0 (.slice co (tabS ⟨c, rts, rls⟩).length cc) (tabS ⟨c, rts, rls⟩) ∧ ERow w9 0 (.slice d0 (tabS ⟨d, rts', rls'⟩).length dc) (tabS ⟨d, rts', rls'⟩) ∧
            w9.cell? ⟨q, 9, none⟩ = some (.bool true) ∧ (∃ lo lc, w9.cell? ⟨r, 8, none⟩ = some (.slice lo rls.length lc)) ∧ Below B w5 w9 := by
  obtain ⟨tv, rv, lv, st, F, hj0, hs, _⟩ := h.ex
  obtain ⟨tv', rv', lv', st', G, hq, hs', _⟩ := h'.ex
  have hj := hj0.below hb
  have htel := (X.ok hj.inv).tel
  have htel' := (X.ok hq.inv).tel
  have hFlt : ∀ b, F b → b < W.heap.size := fun b hf => X.lt hj0.inv b hf
  have hGge : ∀ b, G b → W.heap.size ≤ b := hq.bF
  have hGlt : ∀ b, G b → b < w5.heap.size := fun b hf => X.lt hq.inv b hf
  have hrlt : r < W.heap.size := hj0.lt
  have hqge : W.heap.size ≤ q := hq.br
  have hqlt : q < w5.heap.size := hq.lt
  have hBW : B ≤ W.heap.size := hj0.bz
  have hz5 := hb.size
  have hl : (stats ⟨c, rts, rls⟩).length = rls.length := stats_len _
  have hl' : (stats ⟨d, rts', rls'⟩).length = rls'.length := stats_len _
  refine (X.status hj.inv).mono ?_
  rintro e w6 ⟨v1, F1, rfl, t1, i1, k1, u1, o1⟩
  rw [hs.stats htel] at t1
  obtain ⟨ao, ac, rfl⟩ := ownsRow_shape t1
  rw [hl] at t1 u1 ⊢
  have z6 := o1.size
  have q6 : w6.heap[q]? = w5.heap[q]? := o1.block q hqlt (fun hf => by have := hFlt q hf; omega)
  have iq6 : X.Inv w6 y st' G := X.same hq.inv z6 (fun b hf => o1.block b (hGlt b hf) (fun hf' => by have := hFlt b hf'; have := hGge b hf; omega))
  have r1 : ∀ b, (Value.slice ao rls.length ac).ownBlock = some b → w5.heap.size ≤ b ∧ b < w6.heap.size := fun b hk => World.ownsRow.lt t1 b hk
  have F1lt : ∀ b, F1 b → b < w6.heap.size := fun b hf => X.lt i1 b hf
  refine ⟨ao, ac, rfl, cell_of_row w6 q 0 _ _ _ (q6.trans hq.cell), ?_⟩
  refine (X.status iq6).mono ?_
  rintro e w7 ⟨v2, G2, rfl, t2, i2, k2, u2, o2⟩
  rw [hs'.stats htel'] at t2
  obtain ⟨bo, bc, rfl⟩ := ownsRow_shape t2
  rw [hl'] at t2 u2 ⊢
  have z7 := o2.size
  have r2 : ∀ b, (Value.slice bo rls'.length bc).ownBlock = some b → w6.heap.size ≤ b ∧ b < w7.heap.size := fun b hk => World.ownsRow.lt t2 b hk
  have G2lt : ∀ b, G2 b → b < w7.heap.size := fun b hf => X.lt i2 b hf
  have r7 : w7.heap[r]? = w5.heap[r]? := (o2.block r (by omega) (fun hf => by have := hGge r hf; omega)).trans (o1.block r (by omega) hj.nF)
  have ix7 : X.Inv w7 x st F1 := X.same i1 z7 (fun b hf => o2.block b (F1lt b hf) (fun hg => by
    rcases k1 b hf with hf' | hf'
    · have := hFlt b hf'; have := hGge b hg; omega
    · have := hGlt b hg; omega))
  have q7 : w7.heap[q]? = w6.heap[q]? := o2.block q (by omega) hq.nF
  refine ⟨bo, bc, rfl, cell_of_row w7 r 0 _ _ _ (r7.trans hj.cell), ?_⟩
  refine (X.table ix7).mono ?_
  rintro e w8 ⟨v3, F3, rfl, t3, i3, k3, u3, o3⟩
  rw [hs.tabS htel] at t3
  obtain ⟨co, cc, rfl⟩ := ownsRow_shape t3
  have z8 := o3.size
  have r3 : ∀ b, (Value.slice co (tabS ⟨c, rts, rls⟩).length cc).ownBlock = some b → w7.heap.size ≤ b ∧ b < w8.heap.size := fun b hk => World.ownsRow.lt t3 b hk
  have nF1 : ∀ b, W.heap.size ≤ b → b < w5.heap.size → ¬ F1 b := fun b h1 h2 hf => by
    rcases k1 b hf with hf' | hf'
    · have := hFlt b hf'; omega
    · omega
  have q8 : w8.heap[q]? = w7.heap[q]? := o3.block q (by omega) (nF1 q hqge hqlt)
  have iq8 : X.Inv w8 y st' G2 := X.same i2 z8 (fun b hf => o3.block b (G2lt b hf) (fun hf' => by
    rcases k2 b hf with hg | hg
    · exact nF1 b (hGge b hg) (hGlt b hg) hf'
    · have := F1lt b hf'; omega))
  refine ⟨co, cc, rfl, cell_of_row w8 q 0 _ _ _ ((q8.trans (q7.trans q6)).trans hq.cell), ?_⟩
  refine (X.table iq8).mono ?_
  rintro e w9 ⟨v4, G4, rfl, t4, i4, k4, u4, o4⟩
  rw [hs'.tabS htel'] at t4
  obtain ⟨d0, dc, rfl⟩ := ownsRow_shape t4
  have z9 := o4.size
  have nG2 : ∀ b, (b < W.heap.size ∨ (w5.heap.size ≤ b ∧ b < w6.heap.size)) → ¬ G2 b := fun b hb hg => by
    rcases k2 b hg with hg | hg
    · have := hGge b hg; have := hGlt b hg; omega
    · omega
  have nGq : ¬ G2 q := fun hg => by
    rcases k2 q hg with hg | hg
    · exact hq.nF hg
    · omega
  have q9 : w9.heap[q]? = w8.heap[q]? := o4.block q (by omega) nGq
  have r8 : w8.heap[r]? = w7.heap[r]? := o3.block r (by omega) (fun hf => by
    rcases k1 r hf with hf' | hf'
    · exact hj.nF hf'
    · omega)
  have r9 : w9.heap[r]? = w8.heap[r]? := o4.block r (by omega) (nG2 r (.inl hrlt))
  have s1 : TRow w9 w5.heap.size (.slice ao rls.length ac) (stats ⟨c, rts, rls⟩) := t1.same (fun b hk => by
    have hbk := r1 b hk
    refine (o4.block b (by omega) (nG2 b (.inr hbk))).trans ((o3.block b (by omega) (fun hf => u1 b hf hk)).trans (o2.block b hbk.2 (fun hg => by have := hGlt b hg; omega))))
  have s2 : TRow w9 w6.heap.size (.slice bo rls'.length bc) (stats ⟨d, rts', rls'⟩) := t2.same (fun b hk => by
    have hbk := r2 b hk
    exact (o4.block b (by omega) (fun hg => u2 b hg hk)).trans (o3.block b hbk.2 (fun hf => by have := F1lt b hf; omega)))
  have s3 : ERow w9 w7.heap.size (.slice co (tabS ⟨c, rts, rls⟩).length cc) (tabS ⟨c, rts, rls⟩) := t3.same (fun b hk => by
    have hbk := r3 b hk
    exact o4.block b hbk.2 (fun hg => by have := G2lt b hg; omega))
  obtain ⟨lo, lc, hlv⟩ := ownsRow_shape hj.lrow
  have b1 : Below B w5 w6 := o1.below (by omega) hj.bF
  have b2 : Below B w6 w7 := o2.below (by omega) (fun b hg => by have := hGge b hg; omega)
  have b3 : Below B w7 w8 := o3.below (by omega) (fun b hf => by
    rcases k1 b hf with hf' | hf'
    · exact hj.bF b hf'
    · omega)
  have b4 : Below B w8 w9 := o4.below (by omega) (fun b hg => by
    rcases k2 b hg with hg | hg
    · have := hGge b hg; omega
    · omega)
  refine ⟨d0, dc, rfl, ownsRow_base s1 (Nat.zero_le _), ownsRow_base s2 (Nat.zero_le _), ownsRow_base s3 (Nat.zero_le _), ownsRow_base t4 (Nat.zero_le _), cell_of_row w9 q 9 _ _ _ ((q9.trans (q8.trans (q7.trans q6))).trans hq.cell), ⟨lo, lc, ?_⟩, ((b1.trans b2).trans b3).trans b4⟩
  rw [cell_of_row w9 r 8 _ _ _ ((r9.trans (r8.trans r7)).trans hj.cell)]
  simp only [runC]
  rw [hlv]
  rfl
end Go.Proofs.YtgkiknfpcbcnnabGreat
