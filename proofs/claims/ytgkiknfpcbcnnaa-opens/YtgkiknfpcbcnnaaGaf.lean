import Derived.Test.YtgkiknfpcbcnnaaGae
namespace Go.Proofs.Ytgkiknfpcbcnnaa
open Go.RowKit
set_option maxRecDepth 20000

/-- Both rows anew in the gate's place. -/
theorem RGate.setRL {w w4 : World} {g : Nat} {st : Gs} {F : Nat → Prop} {v u : Value} {rts : List Rt} {qs' : List Sd} (h : RGate w g st F) (hb : Below w.heap.size w w4) (hrr : RRow w4 w.heap.size v rts) (hrow : SRow w4 w.heap.size u qs') (hsd : ∀ s ∈ qs', SdOK w4 (fun b => (F b ∨ (w.heap.size ≤ b ∧ b < w4.heap.size)) ∧ b ≠ g) s) (hok : GsOK { st with rts := rts, rls := qs'.map Sd.r }) :
    RGate ((w4.setCell ⟨g, 6, none⟩ v).setCell ⟨g, 7, none⟩ u) g { st with rts := rts, rls := qs'.map Sd.r } (Fr F w ((w4.setCell ⟨g, 6, none⟩ v).setCell ⟨g, 7, none⟩ u)) ∧ Off F w ((w4.setCell ⟨g, 6, none⟩ v).setCell ⟨g, 7, none⟩ u) := by
  obtain ⟨rv, lv, qs, h1, h2, h3, h4, h5, h6, h7⟩ := h.ex
  have hg := h.lt g h.own
  have hsz : ((w4.setCell ⟨g, 6, none⟩ v).setCell ⟨g, 7, none⟩ u).heap.size = w4.heap.size := by simp only [World.setCell, Array.size_modify]
  have hz := hb.size
  have e1 : w4.heap[g]? = _ := (hb.block g hg).trans h1
  have e2 := heap_setCell_same _ g 7 _ _ u (heap_setCell_same w4 g 6 _ _ v e1)
  have oth : ∀ b, b ≠ g → ((w4.setCell ⟨g, 6, none⟩ v).setCell ⟨g, 7, none⟩ u).heap[b]? = w4.heap[b]? := fun b hne => (Below.heap_setCell _ _ _ _ hne).trans (Below.heap_setCell _ _ _ _ hne)
  have hl : (qs'.map Sd.r).length = qs'.length := List.length_map _
  refine ⟨⟨⟨v, u, qs', e2, ?_, ?_, rfl, ?_, ?_, ?_⟩, .inl h.own, hok, ?_⟩, ((Off.of hb).setCell (.inl h.own) v).setCell (.inl h.own) u⟩
  · exact ownsRow_base (ownsRow_same hrr (fun b hbk => oth b (fun e => by have := (World.ownsRow.lt hrr b hbk).1; omega))) (Nat.zero_le _)
  · show World.ownsRow _ 0 _ 7 u (qs'.map Sd.r).length (sdCs qs')
    rw [hl]
    exact ownsRow_base (ownsRow_same hrow (fun b hbk => oth b (fun e => by have := (World.ownsRow.lt hrow b hbk).1; omega))) (Nat.zero_le _)
  · intro s hs
    refine ((hsd s hs).same (fun b hf => oth b hf.2)).mono (fun b hf => ⟨?_, hf.2⟩)
    rcases hf.1 with hf1 | hf1
    · exact .inl hf1
    · exact .inr ⟨hf1.1, by rw [hsz]; exact hf1.2⟩
  · intro b hbk
    have := World.ownsRow.lt hrr b hbk
    exact ⟨.inr ⟨this.1, by rw [hsz]; exact this.2⟩, by omega⟩
  · intro b hbk
    have := World.ownsRow.lt hrow b hbk
    exact ⟨.inr ⟨this.1, by rw [hsz]; exact this.2⟩, by omega⟩
  · intro b hf
    rcases hf with hf | hf
    · have := h.lt b hf; omega
    · exact hf.2

end Go.Proofs.Ytgkiknfpcbcnnaa
