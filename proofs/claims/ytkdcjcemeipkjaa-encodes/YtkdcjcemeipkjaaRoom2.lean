import Derived.Test.YtkdcjcemeipkjaaRoom1
import Derived.Deep.RegionHeld3
namespace Go.Proofs.Ytkdcjcemeipkjaa
open Go.RowKit
set_option maxRecDepth 20000

theorem tcells_one (ts : List Tm) : ∀ v ∈ tcells ts, v.oneCell' = true := by
  intro v hv
  simp only [tcells, List.mem_flatMap, tcell] at hv
  obtain ⟨t, _, h⟩ := hv
  simp at h
  rcases h with rfl | rfl | rfl | rfl <;> rfl

theorem TermsIn.src {w : World} {ao : Option Addr} {ts : List Tm} (h : TermsIn w ao ts) : (∀ ad, ao = some ad → ∀ (j : Nat) (v : Value), (tcells ts)[j]? = some v → w.cell? (ad.add j) = some v) ∧ (ao = none → tcells ts = []) := by
  constructor
  · rintro ad rfl j v hj
    have hlt : j < ts.length * 4 := by rw [← tcells_len]; exact (List.getElem?_eq_some_iff.1 hj).1
    have hi : j / 4 < ts.length := by omega
    have h2 := flat4_at tcell (fun _ => rfl) ts (j / 4) hi (j % 4) (by omega)
    rw [show j / 4 * 4 + j % 4 = j by omega] at h2
    have h3 : (tcells ts)[j]? = (tcell ts[j / 4])[j % 4]? := by unfold tcells; exact h2
    rw [h3] at hj
    obtain ⟨b, off, e, c0, c1, c2, c3⟩ := h (j / 4) hi
    simp only [Option.some.injEq] at e
    subst e
    have hadd : (⟨b, off, none⟩ : Addr).add j = ⟨b, off + j / 4 * 4 + j % 4, none⟩ := by
      have : off + j = off + j / 4 * 4 + j % 4 := by omega
      rw [← this]; unfold Addr.add; split <;> simp_all
    rw [hadd]
    have hr : j % 4 < 4 := by omega
    generalize j % 4 = r at *
    match r, hr with
    | 0, _ => simp only [tcell, List.getElem?_cons_zero, Option.some.injEq] at hj; subst hj; exact c0
    | 1, _ => simp only [tcell, List.getElem?_cons_succ, List.getElem?_cons_zero, Option.some.injEq] at hj; subst hj; exact c1
    | 2, _ => simp only [tcell, List.getElem?_cons_succ, List.getElem?_cons_zero, Option.some.injEq] at hj; subst hj; exact c2
    | 3, _ => simp only [tcell, List.getElem?_cons_succ, List.getElem?_cons_zero, Option.some.injEq] at hj; subst hj; exact c3
  · rintro rfl
    cases ts with
    | nil => rfl
    | cons t r => obtain ⟨b, off, e, _⟩ := h 0 (by simp); cases e

/-- The row of terms, copied and its spare term laid. -/
theorem Rm.made {w : World} {B g : Nat} {ts : List Tm} {j : Int} (hB : B < g) {cur : Array Value} (hh : w.heap[g]? = some (.cells cur 63 (0, 0))) (hs : cur.size = (ts.length + 1) * 4) (hc : ∀ (k : Nat) (v : Value), (tcells ts)[k]? = some v → cur[k]? = some v) :
    Rm ((((w.setCell ⟨g, ts.length * 4, none⟩ (.bool true)).setCell ⟨g, ts.length * 4 + 1, none⟩ (.bool true)).setCell ⟨g, ts.length * 4 + 2, none⟩ (.int .i64 (-9))).setCell ⟨g, ts.length * 4 + 3, none⟩ (.int .i64 (-9 - j))) B (.slice (some ⟨g, 0, none⟩) ts.length (ts.length + 1)) ts j := by
  obtain ⟨⟨e0, e1, e2, e3⟩, eo⟩ := set4_at hs (m := ts.length) (by omega) (.bool true) (.bool true) (.int .i64 (-9)) (.int .i64 (-9 - j))
  refine ⟨g, _, rfl, hB, set4_heap hh, ?_, e0, e1, e2, e3⟩
  intro k v hk
  have : k < ts.length * 4 := by rw [← tcells_len]; exact (List.getElem?_eq_some_iff.1 hk).1
  rw [eo k (by omega)]
  exact hc k v hk

theorem row_some4 {w : World} {g N k : Nat} {cur : Array Value} {T : TypeId} (hh : w.heap[g]? = some (.cells cur T (0, 0))) (hs : cur.size = N * 4) (hk : k < N) :
    ∃ x y z u, w.cell? ⟨g, k * 4, none⟩ = some x ∧ w.cell? ⟨g, k * 4 + 1, none⟩ = some y ∧ w.cell? ⟨g, k * 4 + 2, none⟩ = some z ∧ w.cell? ⟨g, k * 4 + 3, none⟩ = some u ∧ ∀ o, w.frozen? ⟨g, o, none⟩ = false := by
  have hc : ∀ o (ho : o < cur.size), w.cell? ⟨g, o, none⟩ = some cur[o] := fun o ho => by rw [cell_of_row w _ o cur T (0, 0) hh]; exact Array.getElem?_eq_getElem ho
  exact ⟨_, _, _, _, hc (k * 4) (by omega), hc (k * 4 + 1) (by omega), hc (k * 4 + 2) (by omega), hc (k * 4 + 3) (by omega), fun o => by simp [World.frozen?, hh]⟩

theorem infoTerm4 : (Try.prog.info? 63).map (·.size) = some 4 := by
  obtain ⟨i0, hi, hz0, hz1, hz2⟩ := info_parts infoTerm
  rw [hi]; simp [hz1]

set_option maxHeartbeats 1000000 in
theorem roomy_any (w : World) (ao : Option Addr) (cap : Nat) (ps : List Pt) (h : PartsIn w ao ps) (hn : ps.length ≤ 5864062014803) (ht : ∀ p ∈ ps, p.ts.length ≤ 11000000000000) :
    Calls Try.prog 15 #[.slice ao ps.length cap] w fun e w' => e = .returned (.slice (some ⟨w.heap.size, 0, none⟩) ps.length (ps.length + 1)) ∧ Below w.heap.size w w' ∧ Roomed w' w.heap.size ps := by
  have hmk := make_parts ps.length hn
  obtain ⟨X, hX⟩ : ∃ X, X = madeCells (Value.agg #[.int .i64 0, .int .i64 0, .int .i64 0, .slice none 0 0]).cells ((ps.length + 1) * 4) := ⟨_, rfl⟩
  have hXs : X.size = (ps.length + 1) * 4 := by rw [hX, size_madeCells]
  rw [← hX] at hmk
  clear hX
  go_enter Try.func15, Try.ntmps15
  go_wp2
  clear hmk
  go_loopw [4] (fun i wr => ∃ j : Nat, i = .int .i64 j ∧ j ≤ ps.length ∧ RO w ps j wr) (fun i _ => ps.length - (intOf i).toNat)
  case atStart => exact ⟨0, rfl, Nat.zero_le _, RO.start w ps X hXs⟩
  case round =>
    obtain ⟨j, rfl, hj, hro⟩ := hrel
    by_cases hlt : j < ps.length
    · obtain ⟨bl, off, tao, tcap, rfl, c0, c1, c2, c3, hl, hti⟩ := h.below hro.low j hlt
      have htl := ht _ (List.getElem_mem hlt)
      have hmk := make_terms ps[j].ts.length htl
      obtain ⟨Y, hY⟩ : ∃ Y, Y = madeCells (Value.agg #[.bool false, .bool false, .int .i64 0, .int .i64 0]).cells ((ps[j].ts.length + 1) * 4) := ⟨_, rfl⟩
      have hYs : Y.size = (ps[j].ts.length + 1) * 4 := by rw [hY, size_madeCells]
      rw [← hY] at hmk
      clear hY
      have hts := (hti.below (below_alloc wr (.cells Y 63))).src
      have hlow := hro.lt
      have hnew : (wr.alloc (.cells Y 63)).heap[wr.heap.size]? = some (.cells Y 63 (0, 0)) := by show (wr.heap.push _)[wr.heap.size]? = _; simp
      have hbl : bl < wr.heap.size := World.block_lt_of_cell? wr _ c0
      have d3 : (wr.alloc (.cells Y 63)).cell? ⟨bl, off + j * 4 + 3, none⟩ = some (.slice tao ps[j].ts.length tcap) := ((below_alloc wr (.cells Y 63)).cell hbl).trans c3
      clear hti h
      generalize hp : ps[j] = p at *
      obtain ⟨w2, vc, hcp, ⟨cur, hc0, hc1, hc2⟩, hB2, hs2⟩ := run_copy_some (P := Try.prog) (wr.alloc (.cells Y 63)) 33 33 3 63 4 wr.heap.size (p.ts.length + 1) (p.ts.length + 1) tao p.ts.length tcap Y 63 (tcells p.ts) Try.underlying33 infoTerm4 hnew (by rw [tcells_len]; simp) hts.1 hts.2 (by rw [tcells_len, hYs]; omega) (tcells_one _)
      go_wp2_with (go_at_call 28; refine (spoilt_big _ _ (by omega) (by omega)).mono ?_; rintro e w3 ⟨rfl, hb3⟩; have hc3 : w3.heap[wr.heap.size]? = some (.cells cur 63 (0, 0)) := (hb3.block _ (lt_of_block hc0)).trans hc0; obtain ⟨x, y, z, u, x0, x1, x2, x3, xf⟩ := row_some4 hc3 (hc1.trans hYs) (Nat.lt_succ_self p.ts.length))
      have hz3 : wr.heap.size ≤ w2.heap.size := by rw [hs2]; simp
      have hb4 : Below wr.heap.size wr w3 := ((below_alloc wr (.cells Y 63)).trans hB2).trans (hb3.mono hz3)
      have hrm := Rm.made (w := w3) (B := w.heap.size) (g := wr.heap.size) (ts := p.ts) (j := (j : Int)) hlow hc3 (hc1.trans hYs) hc2
      have hb5 : Below wr.heap.size wr ((((w3.setCell ⟨wr.heap.size, p.ts.length * 4, none⟩ (.bool true)).setCell ⟨wr.heap.size, p.ts.length * 4 + 1, none⟩ (.bool true)).setCell ⟨wr.heap.size, p.ts.length * 4 + 2, none⟩ (.int .i64 (-9))).setCell ⟨wr.heap.size, p.ts.length * 4 + 3, none⟩ (.int .i64 (-9 - (j : Int)))) := set4_below hb4 (Nat.le_refl _)
      generalize (((w3.setCell ⟨wr.heap.size, p.ts.length * 4, none⟩ (.bool true)).setCell ⟨wr.heap.size, p.ts.length * 4 + 1, none⟩ (.bool true)).setCell ⟨wr.heap.size, p.ts.length * 4 + 2, none⟩ (.int .i64 (-9))).setCell ⟨wr.heap.size, p.ts.length * 4 + 3, none⟩ (.int .i64 (-9 - (j : Int))) = w4 at *
      have hro4 := hro.below hb5
      have f0 := (hb5.cell hbl).trans c0
      have f1 := (hb5.cell hbl).trans c1
      have f2 := (hb5.cell hbl).trans c2
      obtain ⟨ox, oy, oz, ou, o0, o1, o2, o3, of⟩ := hro4.cells j hj
      clear c0 c1 c2 c3 d3 hb3 hb4 hb5 hc0 hc1 hc2 hc3 x0 x1 x2 x3 xf hts hnew hmk hB2 hcp
      have hnx := (hro4.step hlt (tv := .slice (some ⟨wr.heap.size, 0, none⟩) p.ts.length (p.ts.length + 1)) (by rw [hp]; exact hrm)).below ((Below.refl _ _).drew)
      rw [hp] at hnx
      clear hrm hro4 hro
      go_region
      clear f0 f1 f2 o0 o1 o2 o3 of
      generalize World.drew _ = w5 at *
      go_wp2
      go_roundw
      case rel => exact ⟨j + 1, by go_num, by omega, hnx⟩
      case measure => simp [intOf]; omega
    · have e : j = ps.length := by omega
      subst e
      clear h ht
      go_wp2_with (go_at_call 13; refine (spoiltPart_any _).mono ?_; rintro e w3 ⟨rfl, hb3⟩; have hro3 := hro.below hb3; obtain ⟨ox, oy, oz, ou, o0, o1, o2, o3, of⟩ := hro3.cells ps.length (Nat.le_refl _))
      go_ret
      have := hro3.done (.int .i64 0) (.int .i64 0)
      exact ⟨rfl, this.1, this.2⟩
end Go.Proofs.Ytkdcjcemeipkjaa
