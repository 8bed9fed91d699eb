import Derived.Test.YtgkiknfpcbcnnaaGad
import Derived.Test.YtgkiknfpcbcnnaaCmp7
namespace Go.Proofs.Ytgkiknfpcbcnnaa
open Go.RowKit
set_option maxRecDepth 20000

def SRow (w : World) (B : Nat) (v : Value) (l : List Sd) : Prop := w.ownsRow B 181 7 v l.length (sdCs l)
theorem SRow.nil (w : World) (B : Nat) : SRow w B (.slice none 0 0) [] := World.ownsRow_nil _ _ _ _
theorem SRow.snoc {w : World} {B : Nat} {v : Value} {l : List Sd} {s : Sd} (h : w.ownsRow B 181 7 v (l.length + 1) (sdCs l ++ sdC s)) : SRow w B v (l ++ [s]) := by
  have e : sdCs (l ++ [s]) = sdCs l ++ sdC s := by simp [sdCs]
  unfold SRow; rw [e, List.length_append]; exact h
theorem sdCs_get : ∀ (l : List Sd) (i : Nat) (h : i < l.length), (sdCs l)[i * 7]? = some (.string l[i].r.tx) ∧ (sdCs l)[i * 7 + 1]? = some (.int .i64 l[i].r.pe) ∧ (sdCs l)[i * 7 + 2]? = some (.int .i64 l[i].r.ac) ∧ (sdCs l)[i * 7 + 3]? = some l[i].v ∧ (sdCs l)[i * 7 + 4]? = some (.string l[i].ky) ∧ (sdCs l)[i * 7 + 5]? = some (.int .i64 (nS (dS l[i].r.tx) : Nat)) ∧ (sdCs l)[i * 7 + 6]? = some l[i].cv := by
  intro l
  induction l with
  | nil => intro i h; simp at h
  | cons a l ih =>
    intro i h
    have e : sdCs (a :: l) = .string a.r.tx :: .int .i64 a.r.pe :: .int .i64 a.r.ac :: a.v :: .string a.ky :: .int .i64 (nS (dS a.r.tx) : Nat) :: a.cv :: sdCs l := rfl
    rw [e]
    cases i with
    | zero => exact ⟨rfl, rfl, rfl, rfl, rfl, rfl, rfl⟩
    | succ i =>
      have e1 : (i + 1) * 7 = i * 7 + 1 + 1 + 1 + 1 + 1 + 1 + 1 := by omega
      rw [e1]
      simp only [List.getElem?_cons_succ, List.getElem_cons_succ]
      exact ih i (by simpa using h)

/-- The cells of one rule in a row. -/
def SdAt (w : World) (lo : Option Addr) (i : Nat) (s : Sd) : Prop :=
  ∃ b off, lo = some ⟨b, off, none⟩ ∧ b < w.heap.size ∧ w.cell? ⟨b, off + i * 7, none⟩ = some (.string s.r.tx) ∧ w.cell? ⟨b, off + i * 7 + 1, none⟩ = some (.int .i64 s.r.pe) ∧ w.cell? ⟨b, off + i * 7 + 2, none⟩ = some (.int .i64 s.r.ac) ∧
    w.cell? ⟨b, off + i * 7 + 3, none⟩ = some s.v ∧ w.cell? ⟨b, off + i * 7 + 4, none⟩ = some (.string s.ky) ∧ w.cell? ⟨b, off + i * 7 + 5, none⟩ = some (.int .i64 (nS (dS s.r.tx) : Nat)) ∧ w.cell? ⟨b, off + i * 7 + 6, none⟩ = some s.cv
def SdIn (w : World) (lo : Option Addr) (l : List Sd) : Prop := ∀ i (h : i < l.length), SdAt w lo i l[i]
theorem SdIn.below {w w' : World} {lo : Option Addr} {l : List Sd} (h : SdIn w lo l) (hb : Below w.heap.size w w') : SdIn w' lo l := by
  intro i hi
  obtain ⟨b, off, e, hlt, c0, c1, c2, c3, c4, c5, c6⟩ := h i hi
  exact ⟨b, off, e, Nat.lt_of_lt_of_le hlt hb.size, (hb.cell hlt).trans c0, (hb.cell hlt).trans c1, (hb.cell hlt).trans c2, (hb.cell hlt).trans c3, (hb.cell hlt).trans c4, (hb.cell hlt).trans c5, (hb.cell hlt).trans c6⟩
theorem SdIn.of {w : World} {B : Nat} {lo : Option Addr} {n c : Nat} {l : List Sd} (h : w.ownsRow B 181 7 (.slice lo n c) l.length (sdCs l)) : SdIn w lo l := by
  intro i hi
  rcases h.2 with ⟨_, h0⟩ | ⟨g, c', cur, hv, hg, hh, _⟩
  · omega
  · simp only [Value.slice.injEq] at hv
    obtain ⟨e0, e1, e2, e3, e4, e5, e6⟩ := sdCs_get l i hi
    have k := fun j u hh => h.cells (g := g) (by rw [hv.1]; rfl) j u hh
    have c0 := k _ _ e0
    have c1 := k _ _ e1
    have c2 := k _ _ e2
    have c3 := k _ _ e3
    have c4 := k _ _ e4
    have c5 := k _ _ e5
    have c6 := k _ _ e6
    rw [add0] at c0 c1 c2 c3 c4 c5 c6
    exact ⟨g, 0, hv.1, lt_of_block hh, c0, by rw [← Nat.add_assoc] at c1; exact c1, by rw [← Nat.add_assoc] at c2; exact c2, by rw [← Nat.add_assoc] at c3; exact c3, by rw [← Nat.add_assoc] at c4; exact c4, by rw [← Nat.add_assoc] at c5; exact c5, by rw [← Nat.add_assoc] at c6; exact c6⟩

theorem infoSaid : (Try.prog.info? 181).map (fun i => (i.zero, i.size, i.bytes)) = some (some (.agg #[.string ⟨#[]⟩, .int .i64 0, .int .i64 0, .slice none 0 0, .string ⟨#[]⟩, .int .i64 0, .slice none 0 0]), 7, 104) := by kernel_rfl

/-- A rule's values that are slices. -/
theorem SdOK.shape {w : World} {F : Nat → Prop} {s : Sd} (h : SdOK w F s) : ∃ po pn pc co cn cc, s.v = .slice po pn pc ∧ s.cv = .slice co cn cc := by
  obtain ⟨ao, cap, h1, _⟩ := h.rule.reads
  obtain ⟨co, cc, h2⟩ := ownsRow_shape h.row
  exact ⟨ao, _, cap, co, _, cc, h1, h2⟩
theorem sdC_one {s : Sd} {po co : Option Addr} {pn pc cn cc : Nat} (h1 : s.v = .slice po pn pc) (h2 : s.cv = .slice co cn cc) : ∀ u ∈ sdC s, u.oneCell' = true := by
  intro u hu
  simp only [sdC, List.mem_cons, List.not_mem_nil, or_false] at hu
  rcases hu with rfl | rfl | rfl | rfl | rfl | rfl | rfl
  · rfl
  · rfl
  · rfl
  · rw [h1]; rfl
  · rfl
  · rfl
  · rw [h2]; rfl

/-- The rules in the gate's struct. -/
theorem RGate.said {w : World} {g : Nat} {st : Gs} {F : Nat → Prop} (h : RGate w g st F) : ∃ lo lc qs, w.cell? ⟨g, 7, none⟩ = some (.slice lo st.rls.length lc) ∧ qs.map Sd.r = st.rls ∧ SRow w 0 (.slice lo st.rls.length lc) qs ∧ (∀ s ∈ qs, SdOK w (fun b => F b ∧ b ≠ g) s) ∧ w.frozen? ⟨g, 7, none⟩ = false ∧ g < w.heap.size := by
  obtain ⟨rv, lv, qs, h1, h2, h3, h4, h5, h6, h7⟩ := h.ex
  obtain ⟨lo, lc, rfl⟩ := ownsRow_shape h3
  have hl : qs.length = st.rls.length := by rw [← h4, List.length_map]
  refine ⟨lo, lc, qs, cell_of_row w g 7 _ _ _ h1, h4, ?_, h5, frozen_of_row _ _ _ _ _ h1, h.lt g h.own⟩
  unfold SRow; rw [hl]; exact h3

/-- Another row of rules in the gate's place. -/
theorem RGate.setL {w w4 : World} {g : Nat} {st : Gs} {F : Nat → Prop} {v : Value} {qs' : List Sd} (h : RGate w g st F) (hb : Below w.heap.size w w4) (hrow : SRow w4 w.heap.size v qs') (hsd : ∀ s ∈ qs', SdOK w4 (fun b => (F b ∨ (w.heap.size ≤ b ∧ b < w4.heap.size)) ∧ b ≠ g) s) (hok : GsOK { st with rls := qs'.map Sd.r }) :
    RGate (w4.setCell ⟨g, 7, none⟩ v) g { st with rls := qs'.map Sd.r } (Fr F w (w4.setCell ⟨g, 7, none⟩ v)) ∧ Off F w (w4.setCell ⟨g, 7, none⟩ v) := by
  obtain ⟨rv, lv, qs, h1, h2, h3, h4, h5, h6, h7⟩ := h.ex
  have hg := h.lt g h.own
  have hsz : (w4.setCell ⟨g, 7, none⟩ v).heap.size = w4.heap.size := by simp only [World.setCell, Array.size_modify]
  have hz := hb.size
  have e1 : w4.heap[g]? = _ := (hb.block g hg).trans h1
  have e2 := heap_setCell_same w4 g 7 _ _ v e1
  have oth : ∀ b, b ≠ g → (w4.setCell ⟨g, 7, none⟩ v).heap[b]? = w4.heap[b]? := fun b hne => Below.heap_setCell _ _ _ _ hne
  have old : ∀ b, F b → b ≠ g → (w4.setCell ⟨g, 7, none⟩ v).heap[b]? = w.heap[b]? := fun b hf hne => (oth b hne).trans (hb.block b (h.lt b hf))
  have hl : (qs'.map Sd.r).length = qs'.length := List.length_map _
  refine ⟨⟨⟨rv, v, qs', e2, ownsRow_same h2 (fun b hbk => old b (h6 b hbk).1 (h6 b hbk).2), ?_, rfl, ?_, fun b hbk => ⟨.inl (h6 b hbk).1, (h6 b hbk).2⟩, ?_⟩, .inl h.own, hok, ?_⟩, (Off.of hb).setCell (.inl h.own) v⟩
  · show World.ownsRow _ 0 _ 7 v (qs'.map Sd.r).length (sdCs qs')
    rw [hl]
    exact ownsRow_base (ownsRow_same hrow (fun b hbk => oth b (fun e => by have := (World.ownsRow.lt hrow b hbk).1; omega))) (Nat.zero_le _)
  · intro s hs
    refine ((hsd s hs).same (fun b hf => oth b hf.2)).mono (fun b hf => ⟨?_, hf.2⟩)
    rcases hf.1 with hf1 | hf1
    · exact .inl hf1
    · exact .inr ⟨hf1.1, by rw [hsz]; exact hf1.2⟩
  · intro b hbk
    have := World.ownsRow.lt hrow b hbk
    exact ⟨.inr ⟨this.1, by rw [hsz]; exact this.2⟩, by omega⟩
  · intro b hf
    rcases hf with hf | hf
    · have := h.lt b hf; omega
    · exact hf.2

theorem sfilter_take (f : Sd → Bool) (l : List Sd) (i : Nat) (h : i < l.length) : (l.take (i + 1)).filter f = (l.take i).filter f ++ (if f l[i] then [l[i]] else []) := by
  rw [List.take_add_one, List.getElem?_eq_getElem h, List.filter_append]
  simp only [Option.toList, List.filter_cons, List.filter_nil]
theorem sfilter_map (f : Rl → Bool) : ∀ l : List Sd, (l.filter (fun s => f s.r)).map Sd.r = (l.map Sd.r).filter f := by
  intro l
  induction l with
  | nil => rfl
  | cons a l ih =>
    simp only [List.filter_cons, List.map_cons]
    split
    · rw [List.map_cons, ih]
    · exact ih
theorem reS_no {st : Gs} {pe : Int} {tx : ByteArray} (h : reE st pe tx ≠ 0) : reS st pe tx = st := by unfold reS; rw [if_neg h]
theorem adS_no {st : Gs} {pe : Int} {tx : ByteArray} {ac : Int} (h : adE st pe tx ac ≠ 0) : adS st pe tx ac = st := by unfold adS; rw [if_neg h]
end Go.Proofs.Ytgkiknfpcbcnnaa

namespace Go.Proofs.Ytgkiknfpcbcnnaa
open Go.RowKit
set_option maxRecDepth 20000

theorem text_ne {a b : ByteArray} (h : a ≠ b) : (a.toList == b.toList) = false := by
  rw [ByteArray.toList_eq, ByteArray.toList_eq]
  exact beq_eq_false_iff_ne.2 fun e => h (bl_inj e)

end Go.Proofs.Ytgkiknfpcbcnnaa

namespace Go.Proofs.Ytgkiknfpcbcnnaa
open Go.RowKit
set_option maxRecDepth 20000

end Go.Proofs.Ytgkiknfpcbcnnaa
