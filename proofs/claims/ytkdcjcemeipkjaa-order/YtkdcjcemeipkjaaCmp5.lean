import Derived.Test.YtkdcjcemeipkjaaCmp4
namespace Go.Proofs.Ytkdcjcemeipkjaa
open Go.RowKit
set_option maxRecDepth 20000

theorem comparePart_b (p q : Pt) (ao bo : Option Addr) (ca cb : Nat) (w W0 : World) (hp : isP p = true) (hq : isP q = true) (ha : TermsIn W0 ao p.ts) (hb : TermsIn W0 bo q.ts) (hw : Below W0.heap.size W0 w) :
    Calls Try.prog 61 #[.agg #[.int .i64 p.ty, .int .i64 p.bt, .int .i64 p.ln, .slice ao p.ts.length ca], .agg #[.int .i64 q.ty, .int .i64 q.bt, .int .i64 q.ln, .slice bo q.ts.length cb]] w fun e w' => e = .returned (.int .i64 (cmpP p q)) ∧ Below W0.heap.size W0 w' :=
  (comparePart_any p q ao bo ca cb w hp hq (ha.below hw) (hb.below hw)).mono fun _ _ h => ⟨h.1, hw.trans (h.2.mono hw.size)⟩

set_option maxHeartbeats 1000000 in
theorem compareParts_any (ps qs : List Pt) (ao bo : Option Addr) (ca cb : Nat) (w : World) (l1 : ps.length ≤ 5) (hP : ∀ j (h : j < ps.length), isP ps[j] = true) (hQ : ∀ j (h : j < qs.length), isP qs[j] = true) (ha : PartsIn w ao ps) (hb : PartsIn w bo qs) :
    Calls Try.prog 37 #[.slice ao ps.length ca, .slice bo qs.length cb] w fun e w' => e = .returned (.int .i64 (cmpPs ps qs)) ∧ Below w.heap.size w w' := by
  have HP : Hid (∀ j (h : j < ps.length), isP ps[j] = true) := hP
  have HQ : Hid (∀ j (h : j < qs.length), isP qs[j] = true) := hQ
  clear hP hQ
  go_enter Try.func37, Try.ntmps37
  go_wp2
  go_loopw [10] (fun x wr => ∃ j : Nat, x = .int .i64 j ∧ j ≤ ps.length ∧ j ≤ qs.length ∧ Below w.heap.size w wr ∧ Hid (cmpPs ps qs = cmpPs (ps.drop j) (qs.drop j))) (fun x _ => ps.length - (intOf x).toNat)
  case atStart => exact ⟨0, rfl, Nat.zero_le _, Nat.zero_le _, Below.refl _ _, rfl⟩
  case round =>
    obtain ⟨j, rfl, hj, hj', hbel, H⟩ := hrel
    by_cases h1 : j < ps.length
    · obtain ⟨b, off, tao, tcap, rfl, c0, c1, c2, c3, hl, ht⟩ := ha.below hbel j h1
      have hp := HP.out j h1
      have hd1 : ps.drop j = ps[j] :: ps.drop (j + 1) := List.drop_eq_getElem_cons h1
      rw [hd1] at H
      clear hd1 ha
      generalize ps[j] = p at *
      have hz := hbel.size
      by_cases h2 : j < qs.length
      · obtain ⟨b', off', tao', tcap', rfl, e0, e1, e2, e3, hl', ht'⟩ := hb.below hbel j h2
        have hq := HQ.out j h2
        have hd2 : qs.drop j = qs[j] :: qs.drop (j + 1) := List.drop_eq_getElem_cons h2
        rw [hd2] at H
        clear hd2 hb
        generalize qs[j] = q at *
        obtain ⟨W0, hW0⟩ : ∃ W0, W0 = wr.alloc (.cells #[.int .i64 p.ty, .int .i64 p.bt, .int .i64 p.ln, .slice tao p.ts.length tcap] 35) := ⟨_, rfl⟩
        have b1 : Below (wr.alloc (.cells #[.int .i64 p.ty, .int .i64 p.bt, .int .i64 p.ln, .slice tao p.ts.length tcap] 35)).heap.size (wr.alloc (.cells #[.int .i64 p.ty, .int .i64 p.bt, .int .i64 p.ln, .slice tao p.ts.length tcap] 35)) W0 := by rw [hW0]; exact Below.refl _ _
        obtain ⟨a0, a1, a2, a3, af, az⟩ := cells_of_below b1
        have bw := below_first b1
        have lb : b' < wr.heap.size := World.block_lt_of_cell? wr _ e0
        have lb0 : b' < W0.heap.size := by omega
        have g0 := (bw.cell (p := ⟨b', off' + j * 4, none⟩) lb).trans e0
        have g1 := (bw.cell (p := ⟨b', off' + j * 4 + 1, none⟩) lb).trans e1
        have g2 := (bw.cell (p := ⟨b', off' + j * 4 + 2, none⟩) lb).trans e2
        have g3 := (bw.cell (p := ⟨b', off' + j * 4 + 3, none⟩) lb).trans e3
        have ht0 := ht.below bw
        have ht0' := ht'.below bw
        have HS : Hid (∀ w' : World, Below W0.heap.size W0 w' → w'.cell? ⟨wr.heap.size, 0, none⟩ = some (.int .i64 p.ty) ∧ w'.cell? ⟨wr.heap.size, 1, none⟩ = some (.int .i64 p.bt) ∧ w'.cell? ⟨wr.heap.size, 2, none⟩ = some (.int .i64 p.ln) ∧ w'.cell? ⟨wr.heap.size, 3, none⟩ = some (.slice tao p.ts.length tcap) ∧ w'.cell? ⟨b', off' + j * 4, none⟩ = some (.int .i64 q.ty) ∧ w'.cell? ⟨b', off' + j * 4 + 1, none⟩ = some (.int .i64 q.bt) ∧ w'.cell? ⟨b', off' + j * 4 + 2, none⟩ = some (.int .i64 q.ln) ∧ w'.cell? ⟨b', off' + j * 4 + 3, none⟩ = some (.slice tao' q.ts.length tcap') ∧ Below W0.heap.size W0 w') := fun w' hx =>
          ⟨(hx.cell az).trans a0, (hx.cell az).trans a1, (hx.cell az).trans a2, (hx.cell az).trans a3, (hx.cell lb0).trans g0, (hx.cell lb0).trans g1, (hx.cell lb0).trans g2, (hx.cell lb0).trans g3, hx⟩
        have i1 : (j : Int) < (qs.length : Int) := by omega
        have d1 : decide ((qs.length : Int) ≤ (j : Int)) = false := by simp; omega
        clear a0 a1 a2 a3 af g0 g1 g2 g3 b1 ht ht'
        cases hc : decide (cmpP p q = 0)
        · have hcn : ¬ cmpP p q = 0 := by simpa using hc
          have HN : Hid (cmpPs ps qs = cmpP p q) := by
            show _ = _
            rw [H.out]
            show (if cmpP p q = 0 then _ else _) = _
            rw [if_neg hcn]
          have hcb : (cmpP p q == 0) = false := by simpa using hcn
          clear H hc hcn
          go_wp2_with fail
          rw [← hW0]
          clear hW0
          go_region_held3 (fun w' => w'.cell? ⟨wr.heap.size, 0, none⟩ = some (.int .i64 p.ty) ∧ w'.cell? ⟨wr.heap.size, 1, none⟩ = some (.int .i64 p.bt) ∧ w'.cell? ⟨wr.heap.size, 2, none⟩ = some (.int .i64 p.ln) ∧ w'.cell? ⟨wr.heap.size, 3, none⟩ = some (.slice tao p.ts.length tcap) ∧ w'.cell? ⟨b', off' + j * 4, none⟩ = some (.int .i64 q.ty) ∧ w'.cell? ⟨b', off' + j * 4 + 1, none⟩ = some (.int .i64 q.bt) ∧ w'.cell? ⟨b', off' + j * 4 + 2, none⟩ = some (.int .i64 q.ln) ∧ w'.cell? ⟨b', off' + j * 4 + 3, none⟩ = some (.slice tao' q.ts.length tcap') ∧ Below W0.heap.size W0 w')
            (first | exact HS.out _ (by assumption) | exact HS.out _ (Below.refl _ _).drew | exact HS.out _ (Below.refl _ _))
            (first | (go_at_call 61; refine (comparePart_b p q _ _ _ _ _ W0 hp hq ht0 ht0' (by go_split_ands; assumption)).mono ?_; rintro e w1 ⟨rfl, hb1⟩))
          go_wp2
          go_ret
          exact ⟨by rw [HN.out]; rfl, hbel.trans ((bw.trans (hb1.mono (by omega))).mono hz)⟩
        · have hcn : cmpP p q = 0 := by simpa using hc
          have HN : Hid (cmpPs ps qs = cmpPs (ps.drop (j + 1)) (qs.drop (j + 1))) := by
            show _ = _
            rw [H.out]
            show (if cmpP p q = 0 then _ else _) = _
            rw [if_pos hcn]
          have hcb : (cmpP p q == 0) = true := by simpa using hcn
          clear H hc hcn
          go_wp2_with fail
          rw [← hW0]
          clear hW0
          go_region_held3 (fun w' => w'.cell? ⟨wr.heap.size, 0, none⟩ = some (.int .i64 p.ty) ∧ w'.cell? ⟨wr.heap.size, 1, none⟩ = some (.int .i64 p.bt) ∧ w'.cell? ⟨wr.heap.size, 2, none⟩ = some (.int .i64 p.ln) ∧ w'.cell? ⟨wr.heap.size, 3, none⟩ = some (.slice tao p.ts.length tcap) ∧ w'.cell? ⟨b', off' + j * 4, none⟩ = some (.int .i64 q.ty) ∧ w'.cell? ⟨b', off' + j * 4 + 1, none⟩ = some (.int .i64 q.bt) ∧ w'.cell? ⟨b', off' + j * 4 + 2, none⟩ = some (.int .i64 q.ln) ∧ w'.cell? ⟨b', off' + j * 4 + 3, none⟩ = some (.slice tao' q.ts.length tcap') ∧ Below W0.heap.size W0 w')
            (first | exact HS.out _ (by assumption) | exact HS.out _ (Below.refl _ _).drew | exact HS.out _ (Below.refl _ _))
            (first | (go_at_call 61; refine (comparePart_b p q _ _ _ _ _ W0 hp hq ht0 ht0' (by go_split_ands; assumption)).mono ?_; rintro e w1 ⟨rfl, hb1⟩))
          go_wp2
          go_roundw
          case rel => exact ⟨j + 1, by go_num, by omega, by omega, hbel.trans ((bw.trans (hb1.mono (by omega))).mono hz), HN⟩
          case measure => simp [intOf]; omega
      · have HN : Hid (cmpPs ps qs = -1) := by show _ = _; rw [H.out, List.drop_of_length_le (l := qs) (by omega)]; rfl
        clear H hb
        go_wp2
        go_ret
        exact ⟨by rw [HN.out]; rfl, hbel.alloc hz _⟩
    · by_cases h2 : j < qs.length
      · have hd2 : qs.drop j = qs[j] :: qs.drop (j + 1) := List.drop_eq_getElem_cons h2
        have HN : Hid (cmpPs ps qs = 1) := by show _ = _; rw [H.out, List.drop_of_length_le (l := ps) (by omega), hd2]; rfl
        clear H hb ha hd2
        have d3 : decide ((ps.length : Int) < (qs.length : Int)) = true := by simp; omega
        go_wp2
        go_ret
        exact ⟨by rw [HN.out]; rfl, hbel⟩
      · have HN : Hid (cmpPs ps qs = 0) := by show _ = _; rw [H.out, List.drop_of_length_le (l := ps) (by omega), List.drop_of_length_le (l := qs) (by omega)]; rfl
        clear H hb ha
        have d3 : decide ((ps.length : Int) < (qs.length : Int)) = false := by simp; omega
        go_wp2
        go_ret
        exact ⟨by rw [HN.out]; rfl, hbel⟩
end Go.Proofs.Ytkdcjcemeipkjaa
