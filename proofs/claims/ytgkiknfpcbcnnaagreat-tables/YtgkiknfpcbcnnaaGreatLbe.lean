import Derived.Test.YtgkiknfpcbcnnaaGreatLbd
namespace Go.Proofs.YtgkiknfpcbcnnaaGreat
open Go.RowKit
set_option maxRecDepth 20000
theorem gf_eq {a b : Rl} (ha : (decS a.tx).isSome = true) (hb : (decS b.tx).isSome = true) : erl a b = if cC a.tx b.tx = 0 then decide (a.pe < b.pe) else decide (cC a.tx b.tx < 0) := by
  have hp := parts_cmp (dS a.tx) (dS b.tx) (fun p hp => by obtain ⟨j, hj, rfl⟩ := List.getElem_of_mem hp; exact isP_dS a.tx j hj) (fun p hp => by obtain ⟨j, hj, rfl⟩ := List.getElem_of_mem hp; exact isP_dS b.tx j hj)
  have hc : cC a.tx b.tx = cmpL (kyR a) (kyR b) := by
    unfold cC
    rw [ha, hb]
    exact hp.1
  rw [Bool.eq_iff_iff, erl_iff, hc]
  split
  · rename_i h0
    have hk := cmpL_zero h0
    simp only [decide_eq_true_eq]
    constructor
    · rintro (h | h)
      · omega
      · exact h.2
    · exact fun h => .inr ⟨hk, h⟩
  · rename_i h0
    simp only [decide_eq_true_eq]
    constructor
    · rintro (h | h)
      · exact h
      · rw [h.1, cmpL_self] at h0; omega
    · exact fun h => .inl h
set_option maxHeartbeats 800000 in
theorem goesFirst_any (a b : Rl) (w : World) (ha : (decS a.tx).isSome = true) (hb : (decS b.tx).isSome = true) (sa : a.tx.size ≤ 140737488351232) (sb : b.tx.size ≤ 140737488351232) :
    Calls Tryz.prog 74 #[.agg #[.int .i64 a.pe, .string a.tx, .int .i64 a.ac], .agg #[.int .i64 b.pe, .string b.tx, .int .i64 b.ac]] w fun e w' => e = .returned (.bool (erl a b)) ∧ Below w.heap.size w w' := by
  obtain ⟨R, hR⟩ : ∃ R, R = erl a b := ⟨_, rfl⟩
  have HR : Hid (R = if cC a.tx b.tx = 0 then decide (a.pe < b.pe) else decide (cC a.tx b.tx < 0)) := by show _ = _; rw [hR, gf_eq ha hb]
  have HC : Hid (∀ w, Calls Tryz.prog 96 #[.string a.tx, .string b.tx] w fun e w' => e = .returned (.tuple #[.int .i64 (cC a.tx b.tx), .int .i64 (cE a.tx b.tx)]) ∧ Below w.heap.size w w') := fun w => compare_any a.tx b.tx w sa sb
  rw [← hR]
  clear hR ha hb sa sb
  obtain ⟨ta, pa, ca⟩ := a
  obtain ⟨tb, pb, cb⟩ := b
  simp only [] at *
  obtain ⟨wA, hwA⟩ : ∃ wA, wA = (w.alloc (.cells #[.int .i64 pa, .string ta, .int .i64 ca] 110)).alloc (.cells #[.int .i64 pb, .string tb, .int .i64 cb] 110) := ⟨_, rfl⟩
  have HWA : Hid (wA = (w.alloc (.cells #[.int .i64 pa, .string ta, .int .i64 ca] 110)).alloc (.cells #[.int .i64 pb, .string tb, .int .i64 cb] 110)) := hwA
  have hbA : Below w.heap.size w wA := by rw [hwA]; exact ((Below.refl w.heap.size w).alloc (Nat.le_refl _) _).alloc (by simp) _
  have HV1 : Hid (ClVar wA w.heap.size ⟨ta, pa, ca⟩) := by show _ = _; rw [hwA]; exact (heap_alloc_old (w.alloc _) _ (by simp)).trans (heap_alloc_new w _)
  have HV2 : Hid (ClVar wA (w.heap.size + 1) ⟨tb, pb, cb⟩) := by show _ = _; rw [hwA]; exact heap_new_at (w.alloc _) _ _ (by simp)
  clear hwA
  go_enter Tryz.func74, Tryz.ntmps74
  go_wp2_with fail
  rw [← HWA.out]
  refine (HC.out wA).mono ?_
  rintro e w1 ⟨rfl, hb1⟩
  obtain ⟨x0, _, _⟩ := (HV1.out.below hb1).get
  obtain ⟨y0, _, _⟩ := (HV2.out.below hb1).get
  simp only [] at x0 y0
  have hbw : Below w.heap.size w w1 := hbA.trans (hb1.mono hbA.size)
  generalize cC ta tb = o at *
  generalize cE ta tb = ee at *
  by_cases h0 : o = 0
  · have HF : Hid (R = decide (pa < pb)) := by show _ = _; rw [HR.out, if_pos h0]
    subst h0
    clear HR
    go_wp2_with fail
    go_ret
    exact ⟨by rw [HF.out]; rfl, hbw⟩
  · have HF : Hid (R = decide (o < 0)) := by show _ = _; rw [HR.out, if_neg h0]
    have q : (o == 0) = false := by simpa using h0
    clear HR h0
    go_wp2_with fail
    go_ret
    exact ⟨by rw [HF.out]; rfl, hbw⟩
def plN : Bool → Nat
  | true => 1
  | false => 0
theorem len1 {T : List Rl} {i k : Nat} {x : Rl} (h : T.length ≤ i + k) : (T ++ [x]).length ≤ i + 1 + k := by rw [List.length_append, List.length_singleton]; omega
theorem len2 {T : List Rl} {i : Nat} {x y : Rl} (h : T.length ≤ i + 0) : ((T ++ [x]) ++ [y]).length ≤ i + 1 + 1 := by rw [List.length_append, List.length_append, List.length_singleton, List.length_singleton]; omega
def insF (pl : Bool) (a : Rl) (l : List Rl) : List Rl := if pl then l else insR a l
set_option maxHeartbeats 3200000 in
theorem claimsWith_any (L : List Rl) (lo : Option Addr) (lc : Nat) (a : Rl) (w : World) (hin : ClIn w lo L) (h24 : L.length ≤ 24) (hL : ∀ r ∈ L, (decS r.tx).isSome = true ∧ r.tx.size ≤ 140737488351232) (ha : (decS a.tx).isSome = true) (sa : a.tx.size ≤ 140737488351232) :
    Calls Tryz.prog 52 #[.slice lo L.length lc, .agg #[.int .i64 a.pe, .string a.tx, .int .i64 a.ac]] w fun e w' => (∃ v, e = .returned v ∧ LCl w' w.heap.size v (insR a L)) ∧ Below w.heap.size w w' := by
  obtain ⟨i0, hi, hz0, hz1, hz2⟩ := info_parts infoLCl
  have HI : Hid (ClIn w lo L) := hin
  have HG : Hid (∀ (r : Rl), r ∈ L → ∀ w, Calls Tryz.prog 74 #[.agg #[.int .i64 a.pe, .string a.tx, .int .i64 a.ac], .agg #[.int .i64 r.pe, .string r.tx, .int .i64 r.ac]] w fun e w' => e = .returned (.bool (erl a r)) ∧ Below w.heap.size w w') := fun r hr w => goesFirst_any a r w ha (hL r hr).1 sa (hL r hr).2
  clear hin hL ha sa
  obtain ⟨atx, ape, aac⟩ := a
  simp only [] at *
  obtain ⟨w0, hw0⟩ : ∃ w0, w0 = w.alloc (.cells #[.int .i64 ape, .string atx, .int .i64 aac] 110) := ⟨_, rfl⟩
  have HW0 : Hid (w0 = w.alloc (.cells #[.int .i64 ape, .string atx, .int .i64 aac] 110)) := hw0
  have hb0 : Below w.heap.size w w0 := by rw [hw0]; exact below_alloc _ _
  have HV0 : Hid (ClVar w0 w.heap.size ⟨atx, ape, aac⟩) := by show _ = _; rw [hw0]; exact heap_alloc_new w _
  have hz0w : w0.heap.size = w.heap.size + 1 := by rw [hw0]; simp
  have HZ : Hid (w0.heap.size = w.heap.size + 1) := hz0w
  clear hw0 hz0w
  go_enter Tryz.func52, Tryz.ntmps52
  go_wp2_with fail
  rw [← HW0.out]
  go_loopw [5, 6, 11] (fun v pv x wr => ∃ (i : Nat) (T : List Rl) (pl : Bool), x = .int .i64 i ∧ pv = .bool pl ∧ i ≤ L.length ∧ T.length ≤ i + 1 ∧ Hid (T.length ≤ i + plN pl) ∧ LCl wr w0.heap.size v T ∧ Hid (insR ⟨atx, ape, aac⟩ L = T ++ insF pl ⟨atx, ape, aac⟩ (L.drop i)) ∧ Below w0.heap.size w0 wr) (fun _ _ x _ => L.length - (intOf x).toNat)
  case atStart => exact ⟨0, [], false, rfl, rfl, Nat.zero_le _, by simp, Nat.zero_le _, LCl.nil _ _, rfl, Below.refl _ _⟩
  case round =>
    obtain ⟨i, T, pl, rfl, rfl, hil, hTl, HPT, hrow, H, hbel⟩ := hrel
    obtain ⟨oo, oc, rfl⟩ := ownsRow_shape hrow
    have hz := hbel.size
    have hV := HV0.out.below hbel
    have hVz := lt_of_block hV
    obtain ⟨v0, v1, v2⟩ := hV.get
    simp only [] at v0 v1 v2
    have HVr : Hid (ClVar wr w.heap.size ⟨atx, ape, aac⟩) := hV
    clear hV
    have hbw : Below w.heap.size w wr := hb0.trans (hbel.mono hb0.size)
    by_cases hlt : i < L.length
    · obtain ⟨rk, ro, rfl, bz2, c0, c1, c2⟩ := HI.out.below hbw i hlt
      have hdr : L.drop i = L[i] :: L.drop (i + 1) := List.drop_eq_getElem_cons hlt
      rw [hdr] at H
      have HGr := HG.out L[i] (List.getElem_mem hlt)
      generalize L[i] = r at *
      obtain ⟨tx, pe, ac⟩ := r
      simp only [] at c0 c1 c2 HGr
      obtain ⟨wA, hwA⟩ : ∃ wA, wA = wr.alloc (.cells #[.int .i64 pe, .string tx, .int .i64 ac] 110) := ⟨_, rfl⟩
      have HWA : Hid (wA = wr.alloc (.cells #[.int .i64 pe, .string tx, .int .i64 ac] 110)) := hwA
      have hbA : Below wr.heap.size wr wA := by rw [hwA]; exact below_alloc _ _
      have HVA : Hid (ClVar wA wr.heap.size ⟨tx, pe, ac⟩) := by show _ = _; rw [hwA]; exact heap_alloc_new wr _
      have HV0A : Hid (ClVar wA w.heap.size ⟨atx, ape, aac⟩) := HVr.out.below hbA
      have hbwA : Below w0.heap.size w0 wA := hbel.trans (hbA.mono hz)
      have hzA : wA.heap.size = wr.heap.size + 1 := by rw [hwA]; simp
      have hrA : wA.ownsRow w0.heap.size 110 3 (.slice oo T.length oc) T.length (clCs T) := ownsRow_below hrow hbA
      have HCG : Hid (Calls Tryz.prog 74 #[.agg #[.int .i64 ape, .string atx, .int .i64 aac], .agg #[.int .i64 pe, .string tx, .int .i64 ac]] wA fun e w' => e = .returned (.bool (erl ⟨atx, ape, aac⟩ ⟨tx, pe, ac⟩)) ∧ Below wA.heap.size wA w') := HGr wA
      clear HGr hwA hdr
      cases pl
      · cases he : erl ⟨atx, ape, aac⟩ ⟨tx, pe, ac⟩
        · have HN : Hid (insR ⟨atx, ape, aac⟩ L = (T ++ [⟨tx, pe, ac⟩]) ++ insF false ⟨atx, ape, aac⟩ (L.drop (i + 1))) := by
            show _ = _
            rw [H.out]
            simp [insF, insR, he]
          have HQ : Hid (erl ⟨atx, ape, aac⟩ ⟨tx, pe, ac⟩ = false) := he
          clear H he
          go_wp2_with (first
            | (go_at_call 74; rw [← HWA.out]; refine HCG.out.mono ?_; rintro e w1 ⟨rfl, hb1⟩; rw [HQ.out]; have hbw1 : Below w0.heap.size w0 w1 := hbwA.trans (hb1.mono hbwA.size); have hr1 : w1.ownsRow w0.heap.size 110 3 (.slice oo T.length oc) T.length (clCs T) := ownsRow_below hrA hb1; have hz1' := hb1.size; obtain ⟨x0, x1, x2⟩ := (HVA.out.below hb1).get; simp only [] at x0 x1 x2)
            | (at_builtin; refine wpList_append_own _ rfl _ _ 71 rfl w0.heap.size 110 i0 _ 3 32 Tryz.underlying71 hi hz0 hz1 hz2 rfl (by decide) (.slice oo T.length oc) T.length (clCs T) rfl (hr1.alloc _) ⟨w1.heap.size, 0, none⟩ 1 1 (clC ⟨tx, pe, ac⟩) rfl rfl (World.news_of_block (heap_alloc_new w1 _)) (clC_one _) (by unfold maxLen; omega) (by omega) (by simp; omega) ?_; intro v' w4 hown hgrow _; obtain ⟨ao', cap', rfl⟩ := ownsRow_shape hown))
          go_roundw
          case rel => exact ⟨i + 1, _, false, by go_num, rfl, by omega, by simp only [List.length_append, List.length_singleton]; omega, len1 HPT.out, LCl.snoc hown, HN, (hbw1.alloc hbw1.size _).grown hgrow (by simp; omega) (fun k hk => (World.ownsRow.lt hr1 k hk).1)⟩
          case measure => simp [intOf]; omega
        · have HN : Hid (insR ⟨atx, ape, aac⟩ L = ((T ++ [⟨atx, ape, aac⟩]) ++ [⟨tx, pe, ac⟩]) ++ insF true ⟨atx, ape, aac⟩ (L.drop (i + 1))) := by
            show _ = _
            rw [H.out]
            simp [insF, insR, he]
          have HQ : Hid (erl ⟨atx, ape, aac⟩ ⟨tx, pe, ac⟩ = true) := he
          clear H he
          go_wp2_with (first
            | (go_at_call 74; rw [← HWA.out]; refine HCG.out.mono ?_; rintro e w1 ⟨rfl, hb1⟩; rw [HQ.out]; have hbw1 : Below w0.heap.size w0 w1 := hbwA.trans (hb1.mono hbwA.size); have hr1 : w1.ownsRow w0.heap.size 110 3 (.slice oo T.length oc) T.length (clCs T) := ownsRow_below hrA hb1; have hz1' := hb1.size; have HX1 : Hid (ClVar w1 wr.heap.size ⟨tx, pe, ac⟩) := HVA.out.below hb1; obtain ⟨y0, y1, y2⟩ := (HV0A.out.below hb1).get; simp only [] at y0 y1 y2)
            | (at_builtin; refine wpList_append_own _ rfl _ _ 71 rfl w0.heap.size 110 i0 _ 3 32 Tryz.underlying71 hi hz0 hz1 hz2 rfl (by decide) (.slice oo T.length oc) T.length (clCs T) rfl (hr1.alloc _) ⟨w1.heap.size, 0, none⟩ 1 1 (clC ⟨atx, ape, aac⟩) rfl rfl (World.news_of_block (heap_alloc_new w1 _)) (clC_one _) (by unfold maxLen; omega) (by omega) (by simp; omega) ?_; intro v4 w4 hown4 hgrow4 _; obtain ⟨ao4, cap4, rfl⟩ := ownsRow_shape hown4; have hbw4 : Below w0.heap.size w0 w4 := (hbw1.alloc hbw1.size _).grown hgrow4 (by simp; omega) (fun k hk => (World.ownsRow.lt hr1 k hk).1); have hX4 : ClVar w4 wr.heap.size ⟨tx, pe, ac⟩ := (hgrow4.block wr.heap.size (by simp; omega) (fun e => by have := (World.ownsRow.lt hrow wr.heap.size e.symm).2; omega)).trans ((below_alloc w1 _).block wr.heap.size (by omega) |>.trans HX1.out); obtain ⟨x0, x1, x2⟩ := hX4.get; simp only [] at x0 x1 x2; have hz4 := hgrow4.size; simp only [World.size_alloc] at hz4; clear hX4)
            | (at_builtin; refine wpList_append_own _ rfl _ _ 71 rfl w0.heap.size 110 i0 _ 3 32 Tryz.underlying71 hi hz0 hz1 hz2 rfl (by decide) (.slice ao4 (T.length + 1) cap4) (T.length + 1) (clCs T ++ clC ⟨atx, ape, aac⟩) rfl (hown4.alloc _) ⟨w4.heap.size, 0, none⟩ 1 1 (clC ⟨tx, pe, ac⟩) rfl rfl (World.news_of_block (heap_alloc_new w4 _)) (clC_one _) (by unfold maxLen; omega) (by omega) (by simp; omega) ?_; intro v5 w5 hown5 hgrow5 _; obtain ⟨ao5, cap5, rfl⟩ := ownsRow_shape hown5))
          go_roundw
          case rel =>
            have h5 : w5.ownsRow w0.heap.size 110 3 (.slice ao5 (T.length + 1 + 1) cap5) ((T ++ [(⟨atx, ape, aac⟩ : Rl)]).length + 1) (clCs (T ++ [(⟨atx, ape, aac⟩ : Rl)]) ++ clC ⟨tx, pe, ac⟩) := by
              have e : clCs (T ++ [(⟨atx, ape, aac⟩ : Rl)]) = clCs T ++ clC ⟨atx, ape, aac⟩ := by simp [clCs]
              rw [e, List.length_append]; exact hown5
            exact ⟨i + 1, (T ++ [⟨atx, ape, aac⟩]) ++ [⟨tx, pe, ac⟩], true, by go_num, rfl, by omega, len2 HPT.out, len2 HPT.out, LCl.snoc h5, HN, (hbw4.alloc hbw4.size _).grown hgrow5 (by simp; omega) (fun k hk => (World.ownsRow.lt hown4 k hk).1)⟩
          case measure => simp [intOf]; omega
      · have HN : Hid (insR ⟨atx, ape, aac⟩ L = (T ++ [⟨tx, pe, ac⟩]) ++ insF true ⟨atx, ape, aac⟩ (L.drop (i + 1))) := by
          show _ = _
          rw [H.out]
          simp [insF]
        clear H HCG
        rw [HWA.out] at hrA hbwA
        go_wp2_with (at_builtin; refine wpList_append_own _ rfl _ _ 71 rfl w0.heap.size 110 i0 _ 3 32 Tryz.underlying71 hi hz0 hz1 hz2 rfl (by decide) (.slice oo T.length oc) T.length (clCs T) rfl (hrA.alloc _) ⟨wr.heap.size + 1, 0, none⟩ 1 1 (clC ⟨tx, pe, ac⟩) rfl rfl (World.news_of_block (heap_new_at (wr.alloc _) _ _ (by simp))) (clC_one _) (by unfold maxLen; omega) (by omega) (by simp; omega) ?_; intro v' w4 hown hgrow _; obtain ⟨ao', cap', rfl⟩ := ownsRow_shape hown)
        go_roundw
        case rel => exact ⟨i + 1, _, true, by go_num, rfl, by omega, by simp only [List.length_append, List.length_singleton]; omega, len1 HPT.out, LCl.snoc hown, HN, (hbwA.alloc hbwA.size _).grown hgrow (by simp; omega) (fun k hk => (World.ownsRow.lt hrA k hk).1)⟩
        case measure => simp [intOf]; omega
    · rw [List.drop_of_length_le (by omega)] at H
      cases pl
      · have HF : Hid (T ++ [⟨atx, ape, aac⟩] = insR ⟨atx, ape, aac⟩ L) := by
          show _ = _
          rw [H.out]
          rfl
        clear H
        go_wp2_with (at_builtin; refine wpList_append_own _ rfl _ _ 71 rfl w0.heap.size 110 i0 _ 3 32 Tryz.underlying71 hi hz0 hz1 hz2 rfl (by decide) (.slice oo T.length oc) T.length (clCs T) rfl (hrow.alloc _) ⟨wr.heap.size, 0, none⟩ 1 1 (clC ⟨atx, ape, aac⟩) rfl rfl (World.news_of_block (heap_alloc_new wr _)) (clC_one _) (by unfold maxLen; omega) (by omega) (by simp; omega) ?_; intro v' w4 hown hgrow _; obtain ⟨ao', cap', rfl⟩ := ownsRow_shape hown)
        go_ret
        exact ⟨⟨_, rfl, by rw [← HF.out]; exact ownsRow_base (LCl.snoc hown) hb0.size⟩, hb0.trans (((hbel.alloc hz _).grown hgrow (by simp; omega) (fun k hk => (World.ownsRow.lt hrow k hk).1)).mono hb0.size)⟩
      · have HF : Hid (T = insR ⟨atx, ape, aac⟩ L) := by
          show _ = _
          rw [H.out]
          simp [insF]
        clear H
        go_wp2_with fail
        go_ret
        exact ⟨⟨_, rfl, by rw [← HF.out]; exact ownsRow_base hrow hb0.size⟩, hbw⟩
end Go.Proofs.YtgkiknfpcbcnnaaGreat
