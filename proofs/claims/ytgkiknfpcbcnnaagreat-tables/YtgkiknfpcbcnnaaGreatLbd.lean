import Derived.Test.YtgkiknfpcbcnnaaGreatLbc
import Derived.Test.YtgkiknfpcbcnnaaGreatGaj
namespace Go.Proofs.YtgkiknfpcbcnnaaGreat
open Go.RowKit
set_option maxRecDepth 20000
theorem LGate.read {w : World} {g : Nat} {st : Gs} {F : Nat → Prop} (h : LGate w g st F) : ∃ ao cap lo lc, GRead w g st.c ao cap st.rts ∧ w.cell? ⟨g, 7, none⟩ = some (.slice lo st.rls.length lc) ∧ ClIn w lo st.rls ∧ w.frozen? ⟨g, 6, none⟩ = false ∧ w.frozen? ⟨g, 7, none⟩ = false := by
  obtain ⟨rv, lv, h1, h2, h3, h4, h5, h6⟩ := h.ex
  obtain ⟨ao, cap, rfl⟩ := ownsRow_shape h2
  obtain ⟨lo, lc, rfl⟩ := ownsRow_shape h3
  have c : ∀ j, w.cell? ⟨g, j, none⟩ = _ := fun j => cell_of_row w g j _ _ _ h1
  refine ⟨ao, cap, lo, lc, ⟨c 0, c 1, ?_, c 6, h.lt g h.own, rtIn_of h2, h.ok.r24, h.ok.rt⟩, c 7, ClIn.of h3, frozen_of_row _ _ _ _ _ h1, frozen_of_row _ _ _ _ _ h1⟩
  intro i hi
  have : i = 0 ∨ i = 1 ∨ i = 2 ∨ i = 3 := by omega
  rcases this with rfl | rfl | rfl | rfl
  · exact c 2
  · exact c 3
  · exact c 4
  · exact c 5
def ClVar (w : World) (B : Nat) (r : Rl) : Prop := w.heap[B]? = some (.cells #[.int .i64 r.pe, .string r.tx, .int .i64 r.ac] 110 (0, 0))
theorem ClVar.get {w : World} {B : Nat} {r : Rl} (h : ClVar w B r) : w.cell? ⟨B, 0, none⟩ = some (.int .i64 r.pe) ∧ w.cell? ⟨B, 1, none⟩ = some (.string r.tx) ∧ w.cell? ⟨B, 2, none⟩ = some (.int .i64 r.ac) :=
  ⟨cell_of_row _ _ 0 _ _ _ h, cell_of_row _ _ 1 _ _ _ h, cell_of_row _ _ 2 _ _ _ h⟩
theorem ClVar.below {w w' : World} {B : Nat} {r : Rl} (h : ClVar w B r) (hb : Below w.heap.size w w') : ClVar w' B r := (hb.block B (lt_of_block h)).trans h
set_option maxHeartbeats 1600000 in
theorem judged_any (g : Nat) (st : Gs) (F : Nat → Prop) (w : World) (h : LGate w g st F) :
    Calls Tryz.prog 64 #[.pointer (some ⟨g, 0, none⟩)] w fun e w' => (∃ v, e = .returned v ∧ TRow w' w.heap.size v (st.rls.zip (jd st.c st.rts ⟨#[]⟩ st.rls))) ∧ Below w.heap.size w w' := by
  obtain ⟨i0, hi, hz0, hz1, hz2⟩ := info_parts infoStatus
  obtain ⟨ao, cap, lo, lc, hread, c7, hcl, _, _⟩ := h.read
  have HG : Hid (GRead w g st.c ao cap st.rts) := hread
  have HC : Hid (ClIn w lo st.rls) := hcl
  have HOK : Hid (∀ r ∈ st.rls, peOK r.pe = true ∧ (decS r.tx).isSome = true ∧ r.tx.size ≤ 140737488351232) := fun r hr => ⟨(h.ok.rl r hr).1, (h.ok.rl r hr).2.1, h.sz r hr⟩
  have h24 := h.ok.l24
  have hgz := hread.lt
  clear h hread hcl
  obtain ⟨c, rts, L⟩ := st
  simp only [] at *
  go_enter Tryz.func64, Tryz.ntmps64
  go_wp2_with fail
  go_loopw [3, 4, 13] (fun v la x wr => ∃ (i : Nat) (T : List (Rl × Int)) (last : ByteArray), x = .int .i64 i ∧ la = .string last ∧ i ≤ L.length ∧ T.length ≤ i ∧ TRow wr w.heap.size v T ∧ Hid (L.zip (jd c rts ⟨#[]⟩ L) = T ++ (L.drop i).zip (jd c rts last (L.drop i))) ∧ Below w.heap.size w wr) (fun _ _ x _ => L.length - (intOf x).toNat)
  case atStart => exact ⟨0, [], ⟨#[]⟩, rfl, rfl, Nat.zero_le _, Nat.le_refl _, TRow.nil _ _, rfl, Below.refl _ _⟩
  case round =>
    clear c7
    obtain ⟨i, T, last, rfl, rfl, hil, hTl, hrow, H, hbel⟩ := hrel
    obtain ⟨oo, oc, rfl⟩ := ownsRow_shape hrow
    have hz := hbel.size
    by_cases hlt : i < L.length
    · obtain ⟨rk, ro, rfl, bz2, c0, c1, c2⟩ := HC.out.below hbel i hlt
      have hdr : L.drop i = L[i] :: L.drop (i + 1) := List.drop_eq_getElem_cons hlt
      obtain ⟨o1, o2, o3⟩ := HOK.out L[i] (List.getElem_mem hlt)
      rw [hdr] at H
      have HH := lholds_any g c ao cap rts L[i]
      generalize L[i] = r at *
      obtain ⟨tx, pe, ac⟩ := r
      simp only [] at c0 c1 c2 o1 o2 o3 HH
      simp only [jd] at H
      obtain ⟨wA, hwA⟩ : ∃ wA, wA = wr.alloc (.cells #[.int .i64 pe, .string tx, .int .i64 ac] 110) := ⟨_, rfl⟩
      have hbA : Below wr.heap.size wr wA := by rw [hwA]; exact below_alloc _ _
      have HV : Hid (ClVar wA wr.heap.size ⟨tx, pe, ac⟩) := by show _ = _; rw [hwA]; exact heap_alloc_new wr _
      have HWA : Hid (wA = wr.alloc (.cells #[.int .i64 pe, .string tx, .int .i64 ac] 110)) := hwA
      have hbwA : Below w.heap.size w wA := hbel.trans (hbA.mono hz)
      have HHC : Hid (Calls Tryz.prog 85 #[.pointer (some ⟨g, 0, none⟩), .agg #[.int .i64 pe, .string tx, .int .i64 ac]] wA fun e w' => e = .returned (.bool (holdS c rts ⟨tx, pe, ac⟩)) ∧ Below wA.heap.size wA w') := HH wA (HG.out.below hbwA) o1 o2 o3
      clear HH hwA hdr o1 o2 o3
      have hzA := hbA.size
      cases hh : holdS c rts ⟨tx, pe, ac⟩
      · skip
        have HN : Hid (L.zip (jd c rts ⟨#[]⟩ L) = (T ++ [(⟨tx, pe, ac⟩, 0)]) ++ (L.drop (i + 1)).zip (jd c rts last (L.drop (i + 1)))) := by
          show _ = _
          rw [H.out]
          simp [hh]
        have HQ : Hid (holdS c rts ⟨tx, pe, ac⟩ = false) := hh
        clear H hh
        go_wp2_with (first
          | (go_at_call 85; rw [← HWA.out]; refine HHC.out.mono ?_; rintro e w1 ⟨rfl, hb1⟩; rw [HQ.out]; have hbw1 : Below w.heap.size w w1 := hbwA.trans (hb1.mono hbwA.size); have hr1 : w1.ownsRow w.heap.size 59 4 (.slice oo T.length oc) T.length (ttCs T) := ownsRow_below (ownsRow_below hrow hbA) hb1; have hz1' := hb1.size; obtain ⟨x0, x1, x2⟩ := (HV.out.below hb1).get; simp only [] at x0 x1 x2)
          | (at_builtin; refine wpList_append_own _ rfl _ _ 61 rfl w.heap.size 59 i0 _ 4 40 Tryz.underlying61 hi hz0 hz1 hz2 rfl (by decide) (.slice oo T.length oc) T.length (ttCs T) rfl (hr1.alloc _) ⟨w1.heap.size, 0, none⟩ 1 1 (ttC (⟨tx, pe, ac⟩, 0)) rfl rfl (World.news_of_block (heap_alloc_new w1 _)) (ttC_one _) (by unfold maxLen; omega) (by omega) (by simp; omega) ?_; intro v' w4 hown hgrow _; obtain ⟨ao', cap', rfl⟩ := ownsRow_shape hown))
        go_roundw
        case rel => exact ⟨i + 1, _, last, by go_num, rfl, by omega, by simp only [List.length_append, List.length_singleton]; omega, TRow.snoc hown, HN, (hbw1.alloc hbw1.size _).grown hgrow (by simp; omega) (fun k hk => (World.ownsRow.lt hr1 k hk).1)⟩
        case measure => simp [intOf]; omega
      · by_cases he : tx = last
        · subst he
          have HN : Hid (L.zip (jd c rts ⟨#[]⟩ L) = (T ++ [(⟨tx, pe, ac⟩, 1)]) ++ (L.drop (i + 1)).zip (jd c rts tx (L.drop (i + 1)))) := by
            show _ = _
            rw [H.out]
            simp [hh]
          have q : (tx.toList == tx.toList) = true := by simp
          have HQ : Hid (holdS c rts ⟨tx, pe, ac⟩ = true) := hh
          clear H hh
          go_wp2_with (first
            | (go_at_call 85; rw [← HWA.out]; refine HHC.out.mono ?_; rintro e w1 ⟨rfl, hb1⟩; rw [HQ.out]; have hbw1 : Below w.heap.size w w1 := hbwA.trans (hb1.mono hbwA.size); have hr1 : w1.ownsRow w.heap.size 59 4 (.slice oo T.length oc) T.length (ttCs T) := ownsRow_below (ownsRow_below hrow hbA) hb1; have hz1' := hb1.size; obtain ⟨x0, x1, x2⟩ := (HV.out.below hb1).get; simp only [] at x0 x1 x2)
            | (at_builtin; refine wpList_append_own _ rfl _ _ 61 rfl w.heap.size 59 i0 _ 4 40 Tryz.underlying61 hi hz0 hz1 hz2 rfl (by decide) (.slice oo T.length oc) T.length (ttCs T) rfl (hr1.alloc _) ⟨w1.heap.size, 0, none⟩ 1 1 (ttC (⟨tx, pe, ac⟩, 1)) rfl rfl (World.news_of_block (heap_alloc_new w1 _)) (ttC_one _) (by unfold maxLen; omega) (by omega) (by simp; omega) ?_; intro v' w4 hown hgrow _; obtain ⟨ao', cap', rfl⟩ := ownsRow_shape hown))
          go_roundw
          case rel => exact ⟨i + 1, _, tx, by go_num, rfl, by omega, by simp only [List.length_append, List.length_singleton]; omega, TRow.snoc hown, HN, (hbw1.alloc hbw1.size _).grown hgrow (by simp; omega) (fun k hk => (World.ownsRow.lt hr1 k hk).1)⟩
          case measure => simp [intOf]; omega
        · skip
          have HN : Hid (L.zip (jd c rts ⟨#[]⟩ L) = (T ++ [(⟨tx, pe, ac⟩, 2)]) ++ (L.drop (i + 1)).zip (jd c rts tx (L.drop (i + 1)))) := by
            show _ = _
            rw [H.out]
            simp [hh, he]
          have q := text_ne he
          clear he
          have HQ : Hid (holdS c rts ⟨tx, pe, ac⟩ = true) := hh
          clear H hh
          go_wp2_with (first
            | (go_at_call 85; rw [← HWA.out]; refine HHC.out.mono ?_; rintro e w1 ⟨rfl, hb1⟩; rw [HQ.out]; have hbw1 : Below w.heap.size w w1 := hbwA.trans (hb1.mono hbwA.size); have hr1 : w1.ownsRow w.heap.size 59 4 (.slice oo T.length oc) T.length (ttCs T) := ownsRow_below (ownsRow_below hrow hbA) hb1; have hz1' := hb1.size; obtain ⟨x0, x1, x2⟩ := (HV.out.below hb1).get; simp only [] at x0 x1 x2)
            | (at_builtin; refine wpList_append_own _ rfl _ _ 61 rfl w.heap.size 59 i0 _ 4 40 Tryz.underlying61 hi hz0 hz1 hz2 rfl (by decide) (.slice oo T.length oc) T.length (ttCs T) rfl (hr1.alloc _) ⟨w1.heap.size, 0, none⟩ 1 1 (ttC (⟨tx, pe, ac⟩, 2)) rfl rfl (World.news_of_block (heap_alloc_new w1 _)) (ttC_one _) (by unfold maxLen; omega) (by omega) (by simp; omega) ?_; intro v' w4 hown hgrow _; obtain ⟨ao', cap', rfl⟩ := ownsRow_shape hown))
          go_roundw
          case rel => exact ⟨i + 1, _, tx, by go_num, rfl, by omega, by simp only [List.length_append, List.length_singleton]; omega, TRow.snoc hown, HN, (hbw1.alloc hbw1.size _).grown hgrow (by simp; omega) (fun k hk => (World.ownsRow.lt hr1 k hk).1)⟩
          case measure => simp [intOf]; omega
    · have HF : Hid (T = L.zip (jd c rts ⟨#[]⟩ L)) := by
        show _ = _
        rw [H.out, List.drop_of_length_le (by omega)]
        simp
      clear H
      go_wp2_with fail
      go_ret
      exact ⟨⟨_, rfl, by rw [← HF.out]; exact hrow⟩, hbel⟩
end Go.Proofs.YtgkiknfpcbcnnaaGreat
namespace Go.Proofs.YtgkiknfpcbcnnaaGreat
open Go.RowKit
set_option maxRecDepth 20000
theorem TRow.frozen {w : World} {B G n c : Nat} {L : List (Rl × Int)} (h : TRow w B (.slice (some ⟨G, 0, none⟩) n c) L) (j : Nat) : w.frozen? ⟨G, j, none⟩ = false := by
  rcases h.2 with ⟨he, _⟩ | ⟨g, c', cur, hv, _, hh, _⟩
  · simp at he
  · simp only [Value.slice.injEq, Option.some.injEq, Addr.mk.injEq, and_true] at hv
    obtain ⟨rfl, _⟩ := hv
    exact frozen_of_row w G j cur _ hh
theorem TRow.store {w : World} {B G n c : Nat} {O J : List (Rl × Int)} {r : Rl} {s : Int} (h : TRow w B (.slice (some ⟨G, 0, none⟩) n c) (O ++ (r, s) :: J)) (s' : Int) : TRow (w.setCell ⟨G, O.length * 4 + 3, none⟩ (.int .i64 s')) B (.slice (some ⟨G, 0, none⟩) n c) (O ++ (r, s') :: J) := by
  have hn : n = (O ++ (r, s) :: J).length := by
    rcases h.2 with ⟨he, _⟩ | ⟨g, c', cur, hv, _⟩
    · simp at he
    · simp only [Value.slice.injEq] at hv; exact hv.2.1
  have hl : (O ++ (r, s') :: J).length = (O ++ (r, s) :: J).length := by simp
  unfold TRow at h ⊢
  rw [hl, ttCs_setSt O r s s' J]
  subst hn
  exact ownsRow_store h _ _
set_option maxHeartbeats 1600000 in
theorem landStatus_any (g : Nat) (st : Gs) (F : Nat → Prop) (w : World) (h : LGate w g st F) :
    Calls Tryz.prog 34 #[.pointer (some ⟨g, 0, none⟩)] w fun e w' => (∃ v, e = .returned v ∧ TRow w' w.heap.size v (stats st)) ∧ Below w.heap.size w w' := by
  have HJ0 : Hid (Calls Tryz.prog 64 #[.pointer (some ⟨g, 0, none⟩)] w fun e w' => (∃ v, e = .returned v ∧ TRow w' w.heap.size v (st.rls.zip (jd st.c st.rts ⟨#[]⟩ st.rls))) ∧ Below w.heap.size w w') := judged_any g st F w h
  obtain ⟨ao, cap, lo, lc, hread, _, _, _, _⟩ := h.read
  have HG : Hid (GRead w g st.c ao cap st.rts) := hread
  have HE : Hid (stats st = inF st.c st.c.cp (st.rls.zip (jd st.c st.rts ⟨#[]⟩ st.rls))) := by
    show _ = _
    have := jd_in st.c st.rts st.rls ⟨#[]⟩ 0
    rw [Int.sub_zero] at this
    rw [this]
    unfold stats
    rw [h.srt.eq h.ok.tel]
  have HOK : Hid (∀ x ∈ st.rls.zip (jd st.c st.rts ⟨#[]⟩ st.rls), (decS x.1.tx).isSome = true ∧ x.1.tx.size ≤ 140737488351232) := fun x hx => by
    have hm := (List.of_mem_zip (a := x.1) (b := x.2) hx).1
    exact ⟨(h.ok.rl _ hm).2.1, h.sz _ hm⟩
  have hJl : (st.rls.zip (jd st.c st.rts ⟨#[]⟩ st.rls)).length ≤ 24 := by
    rw [List.length_zip]
    have := h.ok.l24
    omega
  have hcp : 1 ≤ st.c.cp ∧ st.c.cp ≤ 128 := by
    have := h.ok.c
    rw [cfOK_up] at this
    simp only [Bool.and_eq_true, upTo, decide_eq_true_eq] at this
    exact this.2.1
  have hgz := hread.lt
  clear h hread
  obtain ⟨J, hJe⟩ : ∃ J, J = st.rls.zip (jd st.c st.rts ⟨#[]⟩ st.rls) := ⟨_, rfl⟩
  rw [← hJe] at HJ0 HE HOK hJl
  clear hJe
  obtain ⟨R, hR⟩ : ∃ R, R = stats st := ⟨_, rfl⟩
  rw [← hR] at HE ⊢
  clear hR
  obtain ⟨c, rts, L⟩ := st
  simp only [] at *
  go_enter Tryz.func34, Tryz.ntmps34
  go_wp2_with fail
  refine HJ0.out.mono ?_
  rintro e w1 ⟨⟨v, rfl, hrow1⟩, hb1⟩
  obtain ⟨oo, oc, rfl⟩ := ownsRow_shape hrow1
  have c0 := (HG.out.below hb1).cp
  clear HJ0
  go_wp2_with fail
  go_loopw [4, 18] (fun lf x wr => ∃ (i : Nat) (O : List (Rl × Int)) (left : Int), x = .int .i64 i ∧ lf = .int .i64 left ∧ i ≤ J.length ∧ 0 ≤ left ∧ left ≤ 128 ∧ Hid (O.length = i) ∧ TRow wr w.heap.size (.slice oo J.length oc) (O ++ J.drop i) ∧ Hid (R = O ++ inF c left (J.drop i)) ∧ Below w.heap.size w wr) (fun _ x _ => J.length - (intOf x).toNat)
  case atStart => exact ⟨0, [], c.cp, rfl, rfl, Nat.zero_le _, by omega, by omega, rfl, hrow1, HE, hb1⟩
  case round =>
    clear c0 hrow1 hb1 HE
    obtain ⟨i, O, left, rfl, rfl, hil, hl0, hl1, HOl, hrow, H, hbel⟩ := hrel
    have hz := hbel.size
    by_cases hlt : i < J.length
    · have hdr : J.drop i = J[i] :: J.drop (i + 1) := List.drop_eq_getElem_cons hlt
      obtain ⟨o2, o3⟩ := HOK.out J[i] (List.getElem_mem hlt)
      rw [hdr] at H hrow
      have HC0 := fun w => flowCount_any J[i].1.tx w o3
      have hct : ctC J[i].1.tx = nS (dS J[i].1.tx) := by unfold ctC; rw [if_pos o2]
      have hn := nS_bd (dS J[i].1.tx)
      rw [hct] at HC0
      clear hdr hct
      have hpos : i < (O ++ J[i] :: J.drop (i + 1)).length := by rw [List.length_append, List.length_cons, HOl.out]; omega
      have hget : (O ++ J[i] :: J.drop (i + 1))[i] = J[i] := by
        rw [List.getElem_append_right (by rw [HOl.out]; exact Nat.le_refl _)]
        simp [HOl.out]
      obtain ⟨G, rfl, hGz, hcell⟩ := hrow.get (by omega)
      have hcc := hcell i hpos
      rw [hget] at hcc
      obtain ⟨c0, c1, c2, c3⟩ := hcc
      clear hcell hget hpos
      generalize J[i] = x at *
      obtain ⟨⟨tx, pe, ac⟩, s⟩ := x
      simp only [] at c0 c1 c2 c3 HC0 hn o2 o3
      have fz := hrow.frozen (i * 4 + 3)
      simp only [inF] at H
      have HRW : Hid (TRow wr w.heap.size (.slice (some ⟨G, 0, none⟩) J.length oc) (O ++ (⟨tx, pe, ac⟩, s) :: J.drop (i + 1))) := hrow
      have hG0 : w.heap.size ≤ G := (World.ownsRow.lt hrow G rfl).1
      clear hrow
      obtain ⟨wA, hwA⟩ : ∃ wA, wA = wr.alloc (.cells #[.string tx, .int .i64 pe, .int .i64 ac, .int .i64 s] 59) := ⟨_, rfl⟩
      have hbA : Below wr.heap.size wr wA := by rw [hwA]; exact below_alloc _ _
      have HWA : Hid (wA = wr.alloc (.cells #[.string tx, .int .i64 pe, .int .i64 ac, .int .i64 s] 59)) := hwA
      have hbwA : Below w.heap.size w wA := hbel.trans (hbA.mono hz)
      have HCN : Hid (Calls Tryz.prog 65 #[.string tx] wA fun e w' => e = .returned (.tuple #[.int .i64 (nS (dS tx) : Nat), .int .i64 (eS tx)]) ∧ Below wA.heap.size wA w') := HC0 wA
      clear HC0 hwA
      by_cases hs : s = 2
      · subst hs
        simp only [if_true] at H
        have q2 : ((2 : Int) != 2) = false := by simp
        generalize nS (dS tx) = n at *
        generalize eS tx = es at *
        by_cases hbig : c.bu < (n : Int) ∨ left < (n : Int)
        · rw [if_pos hbig] at H
          have hsp : c.bu < (n : Int) ∨ (¬ c.bu < (n : Int) ∧ left < (n : Int)) := by omega
          clear hbig
          rcases hsp with h1 | ⟨h1, h2⟩
          · have g1 : decide (c.bu < (n : Int)) = true := by simpa using h1
            clear h1
            go_wp2_with (go_at_call 65; rw [← HWA.out]; refine HCN.out.mono ?_; rintro e w2 ⟨rfl, hb2⟩; have hbw2 : Below w.heap.size w w2 := hbwA.trans (hb2.mono hbwA.size); have k1 := (HG.out.below hbw2).bu)
            go_ret
            have hbr2 : Below wr.heap.size wr w2 := hbA.trans (hb2.mono hbA.size)
            exact ⟨⟨_, rfl, by rw [H.out]; exact HRW.out.same (fun b hb => hbr2.block b (World.ownsRow.lt HRW.out b hb).2)⟩, hbw2⟩
          · have g1 : decide (c.bu < (n : Int)) = false := by simpa using h1
            have g2 : decide (left < (n : Int)) = true := by simpa using h2
            clear h1 h2
            go_wp2_with (go_at_call 65; rw [← HWA.out]; refine HCN.out.mono ?_; rintro e w2 ⟨rfl, hb2⟩; have hbw2 : Below w.heap.size w w2 := hbwA.trans (hb2.mono hbwA.size); have k1 := (HG.out.below hbw2).bu)
            go_ret
            have hbr2 : Below wr.heap.size wr w2 := hbA.trans (hb2.mono hbA.size)
            exact ⟨⟨_, rfl, by rw [H.out]; exact HRW.out.same (fun b hb => hbr2.block b (World.ownsRow.lt HRW.out b hb).2)⟩, hbw2⟩
        · rw [if_neg hbig] at H
          have h1 : ¬ c.bu < (n : Int) := by omega
          have h2 : (n : Int) ≤ left := by omega
          have g1 : decide (c.bu < (n : Int)) = false := by simpa using h1
          have g2 : decide (left < (n : Int)) = false := by simp; omega
          have HN : Hid (R = (O ++ [(⟨tx, pe, ac⟩, 3)]) ++ inF c (left - (n : Int)) (J.drop (i + 1))) := by show _ = _; rw [H.out]; simp
          clear h1 hbig H
          go_wp2_with (go_at_call 65; rw [← HWA.out]; refine HCN.out.mono ?_; rintro e w2 ⟨rfl, hb2⟩; have hbw2 : Below w.heap.size w w2 := hbwA.trans (hb2.mono hbwA.size); have k1 := (HG.out.below hbw2).bu; have hbr2 : Below wr.heap.size wr w2 := hbA.trans (hb2.mono hbA.size); have y3 := (hbr2.cell (p := ⟨G, i * 4 + 3, none⟩) hGz).trans c3; have yf := (hbr2.frozen (p := ⟨G, i * 4 + 3, none⟩) hGz).trans fz; have HR2 : Hid (TRow w2 w.heap.size (.slice (some ⟨G, 0, none⟩) J.length oc) (O ++ (⟨tx, pe, ac⟩, 2) :: J.drop (i + 1))) := HRW.out.same (fun b hb => hbr2.block b (World.ownsRow.lt HRW.out b hb).2))
          go_roundw
          case rel =>
            have hst := HR2.out.store 3
            rw [HOl.out] at hst
            exact ⟨i + 1, O ++ [(⟨tx, pe, ac⟩, 3)], left - (n : Int), by go_num, by go_num, by omega, by omega, by omega, by show _ = _; rw [List.length_append, HOl.out]; rfl, by rw [List.append_assoc]; exact hst, HN, hbw2.setCell (p := ⟨G, i * 4 + 3, none⟩) hG0 _⟩
          case measure => simp [intOf]; omega
      · have q2 : (s != 2) = true := by simpa using hs
        rw [if_neg hs] at H
        have HN : Hid (R = (O ++ [(⟨tx, pe, ac⟩, s)]) ++ inF c left (J.drop (i + 1))) := by show _ = _; rw [H.out]; simp
        clear H hs HCN
        have HR2 : Hid (TRow (wr.alloc (.cells #[.string tx, .int .i64 pe, .int .i64 ac, .int .i64 s] 59)) w.heap.size (.slice (some ⟨G, 0, none⟩) J.length oc) (O ++ (⟨tx, pe, ac⟩, s) :: J.drop (i + 1))) := HRW.out.same (fun b hb => (below_alloc wr _).block b (World.ownsRow.lt HRW.out b hb).2)
        go_wp2_with fail
        go_roundw
        case rel => exact ⟨i + 1, O ++ [(⟨tx, pe, ac⟩, s)], left, by go_num, rfl, by omega, by omega, by omega, by show _ = _; rw [List.length_append, HOl.out]; rfl, by rw [List.append_assoc]; exact HR2.out, HN, hbel.alloc hz _⟩
        case measure => simp [intOf]; omega
    · rw [List.drop_of_length_le (by omega)] at hrow H
      have HF : Hid (R = O) := by show _ = _; rw [H.out]; simp [inF]
      clear H
      go_wp2_with fail
      go_ret
      refine ⟨⟨_, rfl, ?_⟩, hbel⟩
      rw [HF.out]
      rw [List.append_nil] at hrow
      exact hrow
end Go.Proofs.YtgkiknfpcbcnnaaGreat
namespace Go.Proofs.YtgkiknfpcbcnnaaGreat
open Go.RowKit
set_option maxRecDepth 20000
def landBase : XBase where
  Inv := LGate
  same := LGate.same
  lt := fun h => h.lt
  ok := fun h => h.ok
  new := landNew_any
  status := fun {w x st F} h => by
    unfold ptrV
    refine (landStatus_any x st F w h).mono ?_
    rintro e w' ⟨⟨v, rfl, hr⟩, hb⟩
    exact ⟨v, F, rfl, hr, h.same hb.size (fun b hf => hb.block b (h.lt b hf)), fun b hf => .inl hf, fun b hf e => by have := (World.ownsRow.lt hr b e).1; have := h.lt b hf; omega, Off.of hb⟩
end Go.Proofs.YtgkiknfpcbcnnaaGreat
