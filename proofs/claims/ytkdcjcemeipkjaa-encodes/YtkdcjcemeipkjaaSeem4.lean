import Derived.Test.YtkdcjcemeipkjaaSeem3
namespace Go.Proofs.Ytkdcjcemeipkjaa
open Go.RowKit
set_option maxRecDepth 20000

theorem smT_len (s : ByteArray) : ∀ (f n : Nat), (smT s f n).1.length ≤ f ∧ n ≤ (smT s f n).2 ∧ (smT s f n).2 ≤ n + 3 * f := by
  intro f
  induction f with
  | zero => intro n; simp [smT]
  | succ f ih =>
    intro n
    have hN : n + 2 ≤ smN s n ∧ smN s n ≤ n + 3 := by unfold smN; split <;> omega
    cases hl : mLast (byt s n)
    · rw [smT_more s f n hl]
      have := ih (smN s n)
      simp only [List.length_cons]
      omega
    · rw [smT_last s f n hl]
      simp only [List.length_cons, List.length_nil]
      omega

theorem sm_bd (s : ByteArray) : (sm s).1.ts.length ≤ 9 ∧ 1 ≤ (sm s).2 ∧ (sm s).2 ≤ 28 := by
  unfold sm
  dsimp only
  split
  · split
    · simp
    · split <;> simp
  · have := smT_len s 9 1
    dsimp only
    omega

theorem seems_any (s : ByteArray) (w : World) (hs : s.size ≤ 140737488351232) :
    Calls Try.prog 25 #[.string s] w fun e w' => (∃ v, e = .returned (.tuple #[.agg #[.int .i64 (sm s).1.ty, .int .i64 (sm s).1.bt, .int .i64 (sm s).1.ln, v], .int .i64 (sm s).2]) ∧ w'.ownsRow w.heap.size 63 4 v (sm s).1.ts.length (tcells (sm s).1.ts)) ∧ Below w.heap.size w w' := by
  by_cases h : byt s 0 ≤ 2
  · refine (seems_pref s w hs h).mono fun e w' ⟨he, hb⟩ => ⟨⟨_, he, ?_⟩, hb⟩
    have e : (sm s).1.ts = [] := by
      unfold sm; dsimp only; rw [if_pos h]; split
      · rfl
      · split <;> rfl
    rw [e]
    exact World.ownsRow_nil _ _ _ _
  · refine (seems_terms s w hs h).mono fun e w' ⟨hb, v, he, ho⟩ => ⟨⟨v, ?_, ?_⟩, hb⟩
    · rw [he]; unfold sm; dsimp only; rw [if_neg h]
    · have e : (sm s).1.ts = (smT s 9 1).1 := by unfold sm; dsimp only; rw [if_neg h]
      rw [e]; exact ho

structure DSt (s : ByteArray) (qs : List (Pt × Value)) (q : Nat) : Prop where
  len : qs.length ≤ 6
  place : q ≤ 28 * qs.length
  small : ∀ x ∈ qs, x.1.ts.length ≤ 9
  rest : smR s 6 0 = qs.map Prod.fst ++ smR s (6 - qs.length) q

theorem DSt.start (s : ByteArray) : DSt s [] 0 := ⟨by simp, by simp, by simp, by simp⟩

theorem DSt.step {s : ByteArray} {qs : List (Pt × Value)} {q : Nat} (h : DSt s qs q) (h6 : qs.length < 6) (hq : q < s.size) (v : Value) : DSt s (qs ++ [((sm (s.extract q s.size)).1, v)]) (q + (sm (s.extract q s.size)).2) := by
  obtain ⟨b1, b2, b3⟩ := sm_bd (s.extract q s.size)
  have := h.place
  refine ⟨by simp; omega, by simp; omega, ?_, ?_⟩
  · intro x hx
    rw [List.mem_append, List.mem_singleton] at hx
    rcases hx with hx | rfl
    · exact h.small x hx
    · exact b1
  · rw [h.rest]
    obtain ⟨f, hf⟩ : ∃ f, 6 - qs.length = f + 1 := ⟨5 - qs.length, by omega⟩
    have hf' : 6 - (qs ++ [((sm (s.extract q s.size)).1, v)]).length = f := by simp; omega
    rw [hf', hf]
    conv => lhs; unfold smR
    rw [if_pos hq]
    simp

theorem DSt.done {s : ByteArray} {qs : List (Pt × Value)} {q : Nat} (h : DSt s qs q) (he : ¬ (q < s.size ∧ qs.length < 6)) : smR s 6 0 = qs.map Prod.fst := by
  have := h.len
  rw [h.rest]
  by_cases h6 : qs.length < 6
  · obtain ⟨f, hf⟩ : ∃ f, 6 - qs.length = f + 1 := ⟨5 - qs.length, by omega⟩
    rw [hf]; unfold smR; rw [if_neg (fun hh => he ⟨hh, h6⟩)]; simp
  · have e : 6 - qs.length = 0 := by omega
    rw [e]; simp [smR]

/-- The rule's own variable, and the parts gathered in it. -/
structure RV (w wr : World) (v : Value) (qs : List (Pt × Value)) : Prop where
  bel : Below (w.heap.size + 1) (w.alloc (.cells #[.slice none 0 0] 24)) wr
  box : wr.heap[w.heap.size + 1]? = some (.cells #[v] 24 (0, 0))
  rule : RuleAt wr (w.heap.size + 2) v qs

theorem rv_cells {w wr : World} {v : Value} (bel : Below (w.heap.size + 1) (w.alloc (.cells #[.slice none 0 0] 24)) wr) (hx : wr.heap[w.heap.size + 1]? = some (.cells #[v] 24 (0, 0))) :
    wr.cell? ⟨w.heap.size + 1, 0, none⟩ = some v ∧ wr.frozen? ⟨w.heap.size + 1, 0, none⟩ = false ∧ w.heap.size + 1 < wr.heap.size ∧ w.heap.size < wr.heap.size ∧ wr.cell? ⟨w.heap.size, 0, none⟩ = some (.slice none 0 0) ∧ wr.frozen? ⟨w.heap.size, 0, none⟩ = false := by
  have hl := lt_of_block hx
  exact ⟨cell_of_one hx, free_of_one hx, hl, by omega, (bel.cell (by simp)).trans (by simp [go_sem]), (bel.frozen (by simp)).trans (by simp [go_sem])⟩

theorem RV.mid {w wr wt w1 : World} {v : Value} {qs : List (Pt × Value)} {o o' : Obj} (h : RV w wr v qs) (hb : Below wr.heap.size wr wt) (hg : ((wt.alloc o).alloc o').grownBy w1 v.ownBlock) :
    Below (w.heap.size + 1) (w.alloc (.cells #[.slice none 0 0] 24)) w1 ∧ w1.heap[w.heap.size + 1]? = some (.cells #[v] 24 (0, 0)) := by
  have hz := lt_of_block h.box
  have hz2 := hb.size
  have hr : ∀ k, v.ownBlock = some k → w.heap.size + 2 ≤ k := fun k hk => (h.rule.parts.lt k hk).1
  refine ⟨(((h.bel.trans (hb.mono (by omega))).alloc (by omega) o).alloc (by simp; omega) o').grown hg (by simp; omega) (fun k hk => by have := hr k hk; omega), ?_⟩
  rw [hg.block _ (by simp; omega) (fun e => by have := hr _ e.symm; omega), Below.heap_alloc _ _ _ (by simp; omega), Below.heap_alloc _ _ _ (by omega), hb.block _ (by omega)]
  exact h.box

theorem RV.app {w wr wt w1 : World} {v v' tv : Value} {qs : List (Pt × Value)} {p : Pt} {o o' : Obj} (h : RV w wr v qs) (hb : Below wr.heap.size wr wt) (ht : wt.ownsRow wr.heap.size 63 4 tv p.ts.length (tcells p.ts)) (hg : ((wt.alloc o).alloc o').grownBy w1 v.ownBlock)
    (ho : w1.ownsRow (w.heap.size + 2) 35 4 v' (qs.length + 1) (pcells qs ++ pcell (p, tv))) : RV w (w1.setCell ⟨w.heap.size + 1, 0, none⟩ v') v' (qs ++ [(p, tv)]) := by
  obtain ⟨m1, m2⟩ := h.mid hb hg
  have hz := lt_of_block h.box
  exact ⟨m1.setCell (by simp) _, one_setCell m2, (h.rule.snoc2 (by omega) hb ht hg ho).setLow (by simp) _⟩

set_option maxHeartbeats 3200000 in
theorem refDecode_any (s : ByteArray) (w : World) (hs : s.size ≤ 140737488351232) :
    Calls Try.prog 9 #[.string s] w fun e w' => Below w.heap.size w w' ∧ DecPost s w.heap.size e w' := by
  obtain ⟨i0, hi, hz0, hz1, hz2⟩ := info_parts infoPart
  go_enter Try.func9, Try.ntmps9
  go_wp2
  go_loopw [5] (fun i wr => ∃ (q : Nat) (v : Value) (qs : List (Pt × Value)), i = .int .i64 q ∧ RV w wr v qs ∧ DSt s qs q) (fun i _ => s.size - (intOf i).toNat)
  case atStart => exact ⟨0, .slice none 0 0, [], rfl, ⟨(Below.refl _ _).alloc (by simp) _, by have := heap_alloc_new (w.alloc (.cells #[.slice none 0 0] 24)) (.cells #[.slice none 0 0] 24); simpa using this, RuleAt.nil _ _⟩, DSt.start s⟩
  case round =>
    obtain ⟨q, v, qs, rfl, hrv, hst⟩ := hrel
    obtain ⟨ao, cap, rfl⟩ := ownsRow_shape hrv.rule.parts
    obtain ⟨a0, af, az, az0, r0, rf⟩ := rv_cells hrv.bel hrv.box
    have hlen := hst.len
    have hpl := hst.place
    by_cases hc : q < s.size ∧ qs.length < 6
    · obtain ⟨h1, h6⟩ := hc
      have d1 : decide (q < s.size) = true := by simpa using h1
      obtain ⟨b1, b2, b3⟩ := sm_bd (s.extract q s.size)
      have HS : Hid (∀ tv, DSt s (qs ++ [((sm (s.extract q s.size)).1, tv)]) (q + (sm (s.extract q s.size)).2)) := fun tv => hst.step h6 h1 tv
      clear hst
      have hse : (s.extract q s.size).size ≤ 140737488351232 := by rw [ByteArray.size_extract]; omega
      go_wp2_with fail
      refine (seems_any _ _ hse).mono ?_
      rintro e w1 ⟨⟨tv, rfl, ht⟩, hb1⟩
      obtain ⟨ta, tc, rfl⟩ := ownsRow_shape ht
      have c1 : w1.cell? ⟨w.heap.size + 1, 0, none⟩ = some (.slice ao qs.length cap) := (hb1.cell (by simpa using az)).trans a0
      have f1 : w1.frozen? ⟨w.heap.size + 1, 0, none⟩ = false := (hb1.frozen (by simpa using az)).trans af
      have z1 : w.heap.size + 1 < w1.heap.size := by have := hb1.size; omega
      generalize (sm (s.extract q s.size)).1 = p at *
      generalize (sm (s.extract q s.size)).2 = m at *
      clear a0 af r0 rf
      go_wp2_with (at_builtin; refine wpList_append_own _ rfl _ _ 22 rfl (w.heap.size + 2) 35 i0 _ 4 48 Try.underlying22 hi hz0 hz1 hz2 rfl (by decide) _ _ _ rfl (((ownsRow_below hrv.rule.parts hb1).alloc _).alloc _) ⟨w1.heap.size + 1, 0, none⟩ 1 1 (pcell (p, .slice ta p.ts.length tc)) rfl rfl (cell_four_new' _ _ _ _ _ _ _ (by simp)) (pcell_one _ _ rfl) (by unfold maxLen; omega) (by omega) (by simp; omega) ?_; intro v' w2 ho hg _; obtain ⟨m1, m2⟩ := hrv.mid hb1 hg; have hrv2 := hrv.app hb1 ht hg ho; obtain ⟨d0, df, dz, dz0, s0, sf⟩ := rv_cells m1 m2; clear m1 m2; obtain ⟨ao', cap', rfl⟩ := ownsRow_shape ho; clear ho hg)
      go_roundw
      case rel => exact ⟨q + m, _, _, by go_num, hrv2, HS.out _⟩
      case measure => simp [intOf]; omega
    · have HD : Hid (smR s 6 0 = qs.map Prod.fst) := hst.done hc
      have hsm := hst.small
      have hparts : PartsIn wr ao (qs.map Prod.fst) := hrv.rule.reads (fun x hx => by have := hsm x hx; omega)
      have hqs : qs.length = (qs.map Prod.fst).length := by rw [List.length_map]
      have HL : Hid (qs.length = (qs.map Prod.fst).length) := hqs
      clear hst hsm hqs
      have hex : s.size ≤ q ∨ (q < s.size ∧ 6 ≤ qs.length) := by omega
      clear hc
      generalize hrs : qs.map Prod.fst = rs at *
      have hlr : rs.length ≤ 6 := by rw [← HL.out]; exact hlen
      have HQ : Hid (qs.map Prod.fst = rs) := hrs
      clear hrs
      have ez := HL.out
      rw [ez] at a0
      cases hR : isR rs
      · have HN : Hid (decS s = none) := ref_no s (.inl (by rw [HD.out]; exact hR))
        have he : Hid (encR rs = .tuple #[.string ⟨#[]⟩, .int .i64 2]) := by show encR rs = _; unfold encR; rw [hR]; rfl
        rcases hex with hge | ⟨hq, h6⟩
        all_goals
          go_wp2_with fail
          refine (refEncode_any rs ao cap _ (by omega) hparts).mono ?_
          rintro e w1 ⟨rfl, hb1⟩
          rw [he.out]
          have c1 : w1.cell? ⟨w.heap.size, 0, none⟩ = some (.slice none 0 0) := (hb1.cell az0).trans r0
          have f1 : w1.frozen? ⟨w.heap.size, 0, none⟩ = false := (hb1.frozen az0).trans rf
          go_wp2
          refine bodyPost_ret (v := .tuple #[.agg #[.slice none 0 0], .int .i64 1]) (by simp [results, Try.results9, go_sem, c1]) rfl ⟨?_, DecPost.no HN⟩
          exact ((below_first' hrv.bel).trans (hb1.mono (by omega))).setCell (Nat.le_refl _) _
      · have he : Hid (encR rs = .tuple #[.string (wParts rs), .int .i64 0]) := by show encR rs = _; unfold encR; rw [hR]; rfl
        by_cases hws : wParts rs = s
        · have HY : Hid (decS s = some (qs.map Prod.fst)) := by show _ = _; rw [HQ.out, ← HD.out]; exact ref_yes s (by rw [HD.out]; exact hR) (by rw [HD.out]; exact hws)
          rw [hws] at he
          clear hws
          rcases hex with hge | ⟨hq, h6⟩
          all_goals
            go_wp2_with fail
            refine (refEncode_any rs ao cap _ (by omega) hparts).mono ?_
            rintro e w1 ⟨rfl, hb1⟩
            rw [he.out]
            have c1 : w1.cell? ⟨w.heap.size, 0, none⟩ = some (.slice none 0 0) := (hb1.cell az0).trans r0
            have f1 : w1.frozen? ⟨w.heap.size, 0, none⟩ = false := (hb1.frozen az0).trans rf
            have c2 : w1.cell? ⟨w.heap.size + 1, 0, none⟩ = some (.slice ao rs.length cap) := (hb1.cell az).trans a0
            go_wp2
            refine bodyPost_ret (v := .tuple #[.agg #[.slice ao rs.length cap], .int .i64 0]) (by simp [results, Try.results9, go_sem, c1]) rfl ⟨?_, DecPost.yes HY ?_⟩
            · exact ((below_first' hrv.bel).trans (hb1.mono (by omega))).setCell (Nat.le_refl _) _
            · have h1 := ((hrv.rule.below hb1).setLow (a := ⟨w.heap.size, 0, none⟩) (by simp) (.slice ao rs.length cap)).base (B' := w.heap.size) (by omega)
              rw [ez] at h1
              exact h1
        · have HN : Hid (decS s = none) := ref_no s (.inr (by rw [HD.out]; exact hws))
          have hne : ((wParts rs).toList == s.toList) = false := by
            rw [ByteArray.toList_eq, ByteArray.toList_eq]
            exact beq_eq_false_iff_ne.2 (fun hh => hws (bl_inj hh))
          have hne2 : ((wParts rs).toList != s.toList) = true := by rw [bne, hne]; rfl
          clear hws
          rcases hex with hge | ⟨hq, h6⟩
          all_goals
            go_wp2_with fail
            refine (refEncode_any rs ao cap _ (by omega) hparts).mono ?_
            rintro e w1 ⟨rfl, hb1⟩
            rw [he.out]
            have c1 : w1.cell? ⟨w.heap.size, 0, none⟩ = some (.slice none 0 0) := (hb1.cell az0).trans r0
            have f1 : w1.frozen? ⟨w.heap.size, 0, none⟩ = false := (hb1.frozen az0).trans rf
            go_wp2
            refine bodyPost_ret (v := .tuple #[.agg #[.slice none 0 0], .int .i64 1]) (by simp [results, Try.results9, go_sem, c1]) rfl ⟨?_, DecPost.no HN⟩
            exact ((below_first' hrv.bel).trans (hb1.mono (by omega))).setCell (Nat.le_refl _) _
end Go.Proofs.Ytkdcjcemeipkjaa
