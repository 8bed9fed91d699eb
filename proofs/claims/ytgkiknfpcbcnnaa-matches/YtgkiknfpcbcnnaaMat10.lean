import Derived.Test.YtgkiknfpcbcnnaaGr
namespace Go.Proofs.Ytgkiknfpcbcnnaa
open Go.RowKit
set_option maxRecDepth 20000

theorem spoken_b (p : Pt) (h : Hd) (ao : Option Addr) (cap : Nat) (w W0 : World) (hp : isP p = true) (hh : hdOK h = true) (ht : TermsIn W0 ao p.ts) (hb : Below W0.heap.size W0 w) :
    Calls Try.prog 52 #[.agg #[.int .i64 p.ty, .int .i64 p.bt, .int .i64 p.ln, .slice ao p.ts.length cap], .agg #[.int .i64 h.ds, .int .i64 h.sr, .int .i64 h.pr, .int .i64 h.po, .int .i64 h.fl, .bool h.la]] w fun e w' => e = .returned (.bool (ptM p h)) ∧ Below W0.heap.size W0 w' :=
  (spoken_any p h ao cap w hp hh (ht.below hb)).mono fun _ _ h => ⟨h.1, hb.trans (h.2.mono hb.size)⟩

set_option maxHeartbeats 1000000 in
theorem refMatch_any (s : ByteArray) (h : Hd) (w : World) (hs : s.size ≤ 140737488351232) :
    Calls Try.prog 24 #[.string s, .agg #[.int .i64 h.ds, .int .i64 h.sr, .int .i64 h.pr, .int .i64 h.po, .int .i64 h.fl, .bool h.la]] w fun e w' => e = .returned (.tuple #[.bool (mB s h), .int .i64 (mE s h)]) ∧ Below w.heap.size w w' := by
  obtain ⟨d5, dts⟩ := dS_small s
  have hP : Hid (∀ j (h : j < (dS s).length), isP (dS s)[j] = true) := dS_isP s
  cases hd : (decS s).isSome
  · obtain ⟨e1, e2, e3⟩ := mB_none (h := h) hd
    rw [e1, e2]
    clear e1 e2 hd
    go_enter Try.func24, Try.ntmps24
    go_wp2_with fail
    refine (ref2 s _ hs).mono ?_
    rintro e w1 ⟨hb1, ao, cap, qs, rfl, hq, hr⟩
    rw [e3]
    go_wp2
    go_ret2
    exact ⟨rfl, (below_first hb1).alloc (below_first hb1).size _⟩
  · cases hh : hdOK h
    · obtain ⟨e1, e2, e3⟩ := mB_bad hd hh
      rw [e1, e2]
      clear e1 e2 hd
      go_enter Try.func24, Try.ntmps24
      go_wp2_with fail
      refine (ref2 s _ hs).mono ?_
      rintro e w1 ⟨hb1, ao, cap, qs, rfl, hq, hr⟩
      rw [e3]
      obtain ⟨a0, a1, a2, a3, a4, a5, az⟩ := cells_six hb1
      go_wp2_with (go_at_call 51; refine (headerOK_any h _).mono ?_; rintro e w2 ⟨rfl, hb2⟩; rw [hh])
      go_ret2
      exact ⟨rfl, below_first (below_two hb1 hb2).1⟩
    · obtain ⟨e1, e2, e3⟩ := mB_some hd hh
      have HM : Hid (mB s h = (true && (dS s).all (ptM · h))) := by show _ = _; rw [e1]; rfl
      rw [e2]
      clear e1 e2 hd
      go_enter Try.func24, Try.ntmps24
      go_wp2_with fail
      refine (ref2 s _ hs).mono ?_
      rintro e w1 ⟨hb1, ao, cap, qs, rfl, hq, hr⟩
      have hp1 := hr.reads2 hq rfl dts
      clear hq hr dts
      rw [e3]
      obtain ⟨a0, a1, a2, a3, a4, a5, az⟩ := cells_six hb1
      go_wp2_with fail
      refine (headerOK_any h _).mono ?_
      rintro e w2 ⟨rfl, hb2⟩
      rw [hh]
      obtain ⟨hw2, hw1⟩ := below_two hb1 hb2
      have r0 : w2.cell? ⟨w1.heap.size, 0, none⟩ = some (.slice ao (dS s).length cap) := (hb2.cell (by simp)).trans (by simp [go_sem])
      have z2 := hb2.size
      simp only [World.size_alloc] at z2
      clear a0 a1 a2 a3 a4 a5 az
      have hp2 := hp1.below hw1
      clear hp1 hb1 hb2 hw1
      go_wp2_with fail
      go_loopw [9, 10] (fun y x wr => ∃ (j : Nat) (g : Bool), x = .int .i64 j ∧ y = .bool g ∧ j ≤ (dS s).length ∧ Below w2.heap.size w2 wr ∧ Hid (mB s h = (g && ((dS s).drop j).all (ptM · h)))) (fun _ x _ => (dS s).length - (intOf x).toNat)
      case atStart => exact ⟨0, true, rfl, rfl, Nat.zero_le _, Below.refl _ _, HM⟩
      case round =>
        obtain ⟨j, g, rfl, rfl, hj, hbel, H⟩ := hrel
        have hw3 : Below (w.alloc (.cells #[.int .i64 h.ds, .int .i64 h.sr, .int .i64 h.pr, .int .i64 h.po, .int .i64 h.fl, .bool h.la] 44)).heap.size (w.alloc (.cells #[.int .i64 h.ds, .int .i64 h.sr, .int .i64 h.pr, .int .i64 h.po, .int .i64 h.fl, .bool h.la] 44)) wr := hw2.trans (hbel.mono hw2.size)
        obtain ⟨a0, a1, a2, a3, a4, a5, az⟩ := cells_six hw3
        have q0 : wr.cell? ⟨w1.heap.size, 0, none⟩ = some (.slice ao (dS s).length cap) := (hbel.cell (by exact z2)).trans r0
        have qz : w1.heap.size < wr.heap.size := by have := hbel.size; omega
        clear r0
        by_cases hlt : j < (dS s).length
        · obtain ⟨b, off, tao, tcap, rfl, c0, c1, c2, c3, hl, ht⟩ := hp2.below hbel j hlt
          have hpj := hP.out j hlt
          have hd : (dS s).drop j = (dS s)[j] :: (dS s).drop (j + 1) := List.drop_eq_getElem_cons hlt
          rw [hd] at H
          clear hd hp2
          generalize (dS s)[j] = p at *
          have hlb : b < wr.heap.size := World.block_lt_of_cell? wr _ c0
          have HS : Hid (∀ w' : World, Below wr.heap.size wr w' → w'.cell? ⟨w1.heap.size, 0, none⟩ = some (.slice (some ⟨b, off, none⟩) (dS s).length cap) ∧ w'.cell? ⟨w.heap.size, 0, none⟩ = some (.int .i64 h.ds) ∧ w'.cell? ⟨w.heap.size, 1, none⟩ = some (.int .i64 h.sr) ∧ w'.cell? ⟨w.heap.size, 2, none⟩ = some (.int .i64 h.pr) ∧ w'.cell? ⟨w.heap.size, 3, none⟩ = some (.int .i64 h.po) ∧ w'.cell? ⟨w.heap.size, 4, none⟩ = some (.int .i64 h.fl) ∧ w'.cell? ⟨w.heap.size, 5, none⟩ = some (.bool h.la) ∧ w'.cell? ⟨b, off + j * 4, none⟩ = some (.int .i64 p.ty) ∧ w'.cell? ⟨b, off + j * 4 + 1, none⟩ = some (.int .i64 p.bt) ∧ w'.cell? ⟨b, off + j * 4 + 2, none⟩ = some (.int .i64 p.ln) ∧ w'.cell? ⟨b, off + j * 4 + 3, none⟩ = some (.slice tao p.ts.length tcap) ∧ Below wr.heap.size wr w') := fun w' hb =>
            ⟨(hb.cell qz).trans q0, (hb.cell az).trans a0, (hb.cell az).trans a1, (hb.cell az).trans a2, (hb.cell az).trans a3, (hb.cell az).trans a4, (hb.cell az).trans a5, (hb.cell hlb).trans c0, (hb.cell hlb).trans c1, (hb.cell hlb).trans c2, (hb.cell hlb).trans c3, hb⟩
          have hz := hbel.size
          have HN : Hid (mB s h = ((g && ptM p h) && ((dS s).drop (j + 1)).all (ptM · h))) := by show _ = _; rw [H.out, List.all_cons, Bool.and_assoc]
          clear H
          cases g
          · go_wp2_with fail
            go_region_held3 (fun w' => w'.cell? ⟨w1.heap.size, 0, none⟩ = some (.slice (some ⟨b, off, none⟩) (dS s).length cap) ∧ w'.cell? ⟨w.heap.size, 0, none⟩ = some (.int .i64 h.ds) ∧ w'.cell? ⟨w.heap.size, 1, none⟩ = some (.int .i64 h.sr) ∧ w'.cell? ⟨w.heap.size, 2, none⟩ = some (.int .i64 h.pr) ∧ w'.cell? ⟨w.heap.size, 3, none⟩ = some (.int .i64 h.po) ∧ w'.cell? ⟨w.heap.size, 4, none⟩ = some (.int .i64 h.fl) ∧ w'.cell? ⟨w.heap.size, 5, none⟩ = some (.bool h.la) ∧ w'.cell? ⟨b, off + j * 4, none⟩ = some (.int .i64 p.ty) ∧ w'.cell? ⟨b, off + j * 4 + 1, none⟩ = some (.int .i64 p.bt) ∧ w'.cell? ⟨b, off + j * 4 + 2, none⟩ = some (.int .i64 p.ln) ∧ w'.cell? ⟨b, off + j * 4 + 3, none⟩ = some (.slice tao p.ts.length tcap) ∧ Below wr.heap.size wr w')
              (first | exact HS.out _ (by assumption) | exact HS.out _ (Below.refl _ _).drew)
              (first | (go_at_call 52; refine (spoken_b p h _ _ _ wr hpj hh ht (by go_split_ands; assumption)).mono ?_; rintro e w3 ⟨rfl, hb3⟩))
            go_wp2
            go_roundw
            case rel => exact ⟨j + 1, _, by go_num, rfl, by omega, hbel.trans (hb3.mono hz), HN⟩
            case measure => simp [intOf]; omega
          · go_wp2_with fail
            go_region_held3 (fun w' => w'.cell? ⟨w1.heap.size, 0, none⟩ = some (.slice (some ⟨b, off, none⟩) (dS s).length cap) ∧ w'.cell? ⟨w.heap.size, 0, none⟩ = some (.int .i64 h.ds) ∧ w'.cell? ⟨w.heap.size, 1, none⟩ = some (.int .i64 h.sr) ∧ w'.cell? ⟨w.heap.size, 2, none⟩ = some (.int .i64 h.pr) ∧ w'.cell? ⟨w.heap.size, 3, none⟩ = some (.int .i64 h.po) ∧ w'.cell? ⟨w.heap.size, 4, none⟩ = some (.int .i64 h.fl) ∧ w'.cell? ⟨w.heap.size, 5, none⟩ = some (.bool h.la) ∧ w'.cell? ⟨b, off + j * 4, none⟩ = some (.int .i64 p.ty) ∧ w'.cell? ⟨b, off + j * 4 + 1, none⟩ = some (.int .i64 p.bt) ∧ w'.cell? ⟨b, off + j * 4 + 2, none⟩ = some (.int .i64 p.ln) ∧ w'.cell? ⟨b, off + j * 4 + 3, none⟩ = some (.slice tao p.ts.length tcap) ∧ Below wr.heap.size wr w')
              (first | exact HS.out _ (by assumption) | exact HS.out _ (Below.refl _ _).drew)
              (first | (go_at_call 52; refine (spoken_b p h _ _ _ wr hpj hh ht (by go_split_ands; assumption)).mono ?_; rintro e w3 ⟨rfl, hb3⟩))
            go_wp2
            go_roundw
            case rel => exact ⟨j + 1, _, by go_num, rfl, by omega, hbel.trans (hb3.mono hz), HN⟩
            case measure => simp [intOf]; omega
        · have HN : Hid (mB s h = g) := by show _ = _; rw [H.out, List.drop_of_length_le (by omega)]; simp
          clear H hp2
          go_wp2
          go_ret2
          exact ⟨by rw [HN.out]; rfl, below_first hw3⟩

theorem matches_any (s : ByteArray) (h : Hd) (w : World) (hs : s.size ≤ 140737488351232) :
    Calls Try.prog 5 #[.string s, .agg #[.int .i64 h.ds, .int .i64 h.sr, .int .i64 h.pr, .int .i64 h.po, .int .i64 h.fl, .bool h.la]] w fun e w' => e = .returned (.bool true) ∧ Below w.heap.size w w' := by
  have hne : (mE s h == mE s h) = true := by simp
  have hnb : (mB s h == mB s h) = true := by simp
  go_enter Try.func5, Try.ntmps5
  go_wp2_with fail
  refine (match_any s h _ hs).mono ?_
  rintro e w1 ⟨rfl, hb1⟩
  obtain ⟨a0, a1, a2, a3, a4, a5, az⟩ := cells_six hb1
  go_wp2_with fail
  refine (refMatch_any s h _ hs).mono ?_
  rintro e w2 ⟨rfl, hb2⟩
  go_wp2
  go_ret
  exact ⟨by simp, (below_first hb1).trans (hb2.mono (by omega))⟩
end Go.Proofs.Ytgkiknfpcbcnnaa
