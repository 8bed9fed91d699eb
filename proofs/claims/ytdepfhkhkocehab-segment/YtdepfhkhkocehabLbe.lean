import Derived.Test.YtdepfhkhkocehabLbd
import Derived.Deep.RegionHeldLaw
import Derived.Deep.RegionLaw
import Derived.Deep.AppendLies
namespace Go.Proofs.Ytdepfhkhkocehab
open Go.RowKit
set_option maxRecDepth 20000

theorem gf_eq {a b : Rl} (ha : (decS a.tx).isSome = true) (hb : (decS b.tx).isSome = true) : erl a b = if cC a.tx b.tx = 0 then decide (a.pe < b.pe) else decide (cC a.tx b.tx < 0) := by
  have hp := parts_cmp (dS a.tx) (dS b.tx) (fun p hp => by obtain ⟨j, hj, rfl⟩ := List.getElem_of_mem hp; exact isP_dS a.tx j hj) (fun p hp => by obtain ⟨j, hj, rfl⟩ := List.getElem_of_mem hp; exact isP_dS b.tx j hj)
  have hc : cC a.tx b.tx = cmpL (kyR a) (kyR b) := by
    unfold cC
    rw [ha, hb]
    exact hp.1
  rw [Bool.eq_iff_iff, erl_iff, hc]
  split
  · rename_i h0
    have hk := cmpL_zero h0
    simp only [decide_eq_true_eq]
    constructor
    · rintro (h | h)
      · omega
      · exact h.2
    · exact fun h => .inr ⟨hk, h⟩
  · rename_i h0
    simp only [decide_eq_true_eq]
    constructor
    · rintro (h | h)
      · exact h
      · rw [h.1, cmpL_self] at h0; omega
    · exact fun h => .inl h

set_option maxHeartbeats 800000 in
theorem goesFirst_any (a b : Rl) (w : World) (ha : (decS a.tx).isSome = true) (hb : (decS b.tx).isSome = true) (sa : a.tx.size ≤ 140737488351232) (sb : b.tx.size ≤ 140737488351232) :
    Calls Try.prog 93 #[.agg #[.int .i64 a.pe, .string a.tx, .int .i64 a.ac], .agg #[.int .i64 b.pe, .string b.tx, .int .i64 b.ac]] w fun e w' => e = .returned (.bool (erl a b)) ∧ Below w.heap.size w w' := by
  obtain ⟨R, hR⟩ : ∃ R, R = erl a b := ⟨_, rfl⟩
  have HR : Hid (R = if cC a.tx b.tx = 0 then decide (a.pe < b.pe) else decide (cC a.tx b.tx < 0)) := by show _ = _; rw [hR, gf_eq ha hb]
  have HC : Hid (∀ w, Calls Try.prog 13 #[.string a.tx, .string b.tx] w fun e w' => e = .returned (.tuple #[.int .i64 (cC a.tx b.tx), .int .i64 (cE a.tx b.tx)]) ∧ Below w.heap.size w w') := fun w => compare_any a.tx b.tx w sa sb
  rw [← hR]
  clear hR ha hb sa sb
  obtain ⟨ta, pa, ca⟩ := a
  obtain ⟨tb, pb, cb⟩ := b
  simp only [] at *
  obtain ⟨wA, hwA⟩ : ∃ wA, wA = (w.alloc (.cells #[.int .i64 pa, .string ta, .int .i64 ca] 89)).alloc (.cells #[.int .i64 pb, .string tb, .int .i64 cb] 89) := ⟨_, rfl⟩
  have HWA : Hid (wA = (w.alloc (.cells #[.int .i64 pa, .string ta, .int .i64 ca] 89)).alloc (.cells #[.int .i64 pb, .string tb, .int .i64 cb] 89)) := hwA
  have hbA : Below w.heap.size w wA := by rw [hwA]; exact ((Below.refl w.heap.size w).alloc (Nat.le_refl _) _).alloc (by simp) _
  have HV1 : Hid (ClVar wA w.heap.size ⟨ta, pa, ca⟩) := by show _ = _; rw [hwA]; exact (heap_alloc_old (w.alloc _) _ (by simp)).trans (heap_alloc_new w _)
  have HV2 : Hid (ClVar wA (w.heap.size + 1) ⟨tb, pb, cb⟩) := by show _ = _; rw [hwA]; exact heap_new_at (w.alloc _) _ _ (by simp)
  clear hwA
  go_enter Try.func93, Try.ntmps93
  go_wp2_with fail
  rw [← HWA.out]
  refine (HC.out wA).mono ?_
  rintro e w1 ⟨rfl, hb1⟩
  obtain ⟨x0, _, _⟩ := (HV1.out.below hb1).get
  obtain ⟨y0, _, _⟩ := (HV2.out.below hb1).get
  simp only [] at x0 y0
  have hbw : Below w.heap.size w w1 := hbA.trans (hb1.mono hbA.size)
  generalize cC ta tb = o at *
  generalize cE ta tb = ee at *
  by_cases h0 : o = 0
  · have HF : Hid (R = decide (pa < pb)) := by show _ = _; rw [HR.out, if_pos h0]
    subst h0
    clear HR
    go_wp2_with fail
    go_ret
    exact ⟨by rw [HF.out]; rfl, hbw⟩
  · have HF : Hid (R = decide (o < 0)) := by show _ = _; rw [HR.out, if_neg h0]
    have q : (o == 0) = false := by simpa using h0
    clear HR h0
    go_wp2_with fail
    go_ret
    exact ⟨by rw [HF.out]; rfl, hbw⟩

def plN : Bool → Nat
  | true => 1
  | false => 0
theorem len1 {T : List Rl} {i k : Nat} {x : Rl} (h : T.length ≤ i + k) : (T ++ [x]).length ≤ i + 1 + k := by rw [List.length_append, List.length_singleton]; omega
theorem len2 {T : List Rl} {i : Nat} {x y : Rl} (h : T.length ≤ i + 0) : ((T ++ [x]) ++ [y]).length ≤ i + 1 + 1 := by rw [List.length_append, List.length_append, List.length_singleton, List.length_singleton]; omega
def insF (pl : Bool) (a : Rl) (l : List Rl) : List Rl := if pl then l else insR a l

set_option maxHeartbeats 3200000 in
theorem claimsWith_any (L : List Rl) (lo : Option Addr) (lc : Nat) (a : Rl) (w : World) (hin : ClIn w lo L) (h24 : L.length ≤ 24) (hL : ∀ r ∈ L, (decS r.tx).isSome = true ∧ r.tx.size ≤ 140737488351232) (ha : (decS a.tx).isSome = true) (sa : a.tx.size ≤ 140737488351232) :
    Calls Try.prog 69 #[.slice lo L.length lc, .agg #[.int .i64 a.pe, .string a.tx, .int .i64 a.ac]] w fun e w' => (∃ v, e = .returned v ∧ LCl w' w.heap.size v (insR a L)) ∧ Below w.heap.size w w' := by
  obtain ⟨i0, hi, hz0, hz1, hz2⟩ := info_parts infoLCl
  have HI : Hid (ClIn w lo L) := hin
  have HG : Hid (∀ (r : Rl), r ∈ L → ∀ w, Calls Try.prog 93 #[.agg #[.int .i64 a.pe, .string a.tx, .int .i64 a.ac], .agg #[.int .i64 r.pe, .string r.tx, .int .i64 r.ac]] w fun e w' => e = .returned (.bool (erl a r)) ∧ Below w.heap.size w w') := fun r hr w => goesFirst_any a r w ha (hL r hr).1 sa (hL r hr).2
  clear hin hL ha sa
  obtain ⟨atx, ape, aac⟩ := a
  simp only [] at *
  obtain ⟨w0, hw0⟩ : ∃ w0, w0 = w.alloc (.cells #[.int .i64 ape, .string atx, .int .i64 aac] 89) := ⟨_, rfl⟩
  have HW0 : Hid (w0 = w.alloc (.cells #[.int .i64 ape, .string atx, .int .i64 aac] 89)) := hw0
  have hb0 : Below w.heap.size w w0 := by rw [hw0]; exact below_alloc _ _
  have HV0 : Hid (ClVar w0 w.heap.size ⟨atx, ape, aac⟩) := by show _ = _; rw [hw0]; exact heap_alloc_new w _
  have hz0w : w0.heap.size = w.heap.size + 1 := by rw [hw0]; simp
  have HZ : Hid (w0.heap.size = w.heap.size + 1) := hz0w
  clear hw0 hz0w
  go_enter Try.func69, Try.ntmps69
  go_wp2_with fail
  rw [← HW0.out]
  go_loopw [5, 6, 11] (fun v pv x wr => ∃ (i : Nat) (T : List Rl) (pl : Bool), x = .int .i64 i ∧ pv = .bool pl ∧ i ≤ L.length ∧ T.length ≤ i + 1 ∧ Hid (T.length ≤ i + plN pl) ∧ LCl wr w0.heap.size v T ∧ Hid (insR ⟨atx, ape, aac⟩ L = T ++ insF pl ⟨atx, ape, aac⟩ (L.drop i)) ∧ Below w0.heap.size w0 wr) (fun _ _ x _ => L.length - (intOf x).toNat)
  case atStart => exact ⟨0, [], false, rfl, rfl, Nat.zero_le _, by simp, Nat.zero_le _, LCl.nil _ _, rfl, Below.refl _ _⟩
  case round =>
    obtain ⟨i, T, pl, rfl, rfl, hil, hTl, HPT, hrow, H, hbel⟩ := hrel
    obtain ⟨oo, oc, rfl⟩ := ownsRow_shape hrow
    have hz := hbel.size
    have hV := HV0.out.below hbel
    have hVz := lt_of_block hV
    obtain ⟨v0, v1, v2⟩ := hV.get
    simp only [] at v0 v1 v2
    have HVr : Hid (ClVar wr w.heap.size ⟨atx, ape, aac⟩) := hV
    clear hV
    have hbw : Below w.heap.size w wr := hb0.trans (hbel.mono hb0.size)
    by_cases hlt : i < L.length
    · obtain ⟨rk, ro, rfl, bz2, c0, c1, c2⟩ := HI.out.below hbw i hlt
      have hdr : L.drop i = L[i] :: L.drop (i + 1) := List.drop_eq_getElem_cons hlt
      rw [hdr] at H
      have HGr := HG.out L[i] (List.getElem_mem hlt)
      generalize L[i] = r at *
      obtain ⟨tx, pe, ac⟩ := r
      simp only [] at c0 c1 c2 HGr
      obtain ⟨wA, hwA⟩ : ∃ wA, wA = wr.alloc (.cells #[.int .i64 pe, .string tx, .int .i64 ac] 89) := ⟨_, rfl⟩
      have HWA : Hid (wA = wr.alloc (.cells #[.int .i64 pe, .string tx, .int .i64 ac] 89)) := hwA
      have hbA : Below wr.heap.size wr wA := by rw [hwA]; exact below_alloc _ _
      have HVA : Hid (ClVar wA wr.heap.size ⟨tx, pe, ac⟩) := by show _ = _; rw [hwA]; exact heap_alloc_new wr _
      have HV0A : Hid (ClVar wA w.heap.size ⟨atx, ape, aac⟩) := HVr.out.below hbA
      have hbwA : Below w0.heap.size w0 wA := hbel.trans (hbA.mono hz)
      have hzA : wA.heap.size = wr.heap.size + 1 := by rw [hwA]; simp
      have hrA : wA.ownsRow w0.heap.size 89 3 (.slice oo T.length oc) T.length (clCs T) := ownsRow_below hrow hbA
      have HCG : Hid (Calls Try.prog 93 #[.agg #[.int .i64 ape, .string atx, .int .i64 aac], .agg #[.int .i64 pe, .string tx, .int .i64 ac]] wA fun e w' => e = .returned (.bool (erl ⟨atx, ape, aac⟩ ⟨tx, pe, ac⟩)) ∧ Below wA.heap.size wA w') := HGr wA
      clear HGr hwA hdr
      cases pl
      · cases he : erl ⟨atx, ape, aac⟩ ⟨tx, pe, ac⟩
        · have HN : Hid (insR ⟨atx, ape, aac⟩ L = (T ++ [⟨tx, pe, ac⟩]) ++ insF false ⟨atx, ape, aac⟩ (L.drop (i + 1))) := by
            show _ = _
            rw [H.out]
            simp [insF, insR, he]
          have HQ : Hid (erl ⟨atx, ape, aac⟩ ⟨tx, pe, ac⟩ = false) := he
          clear H he
          go_wp2_with (first
            | (go_at_call 93; rw [← HWA.out]; refine HCG.out.mono ?_; rintro e w1 ⟨rfl, hb1⟩; rw [HQ.out]; have hbw1 : Below w0.heap.size w0 w1 := hbwA.trans (hb1.mono hbwA.size); have hr1 : w1.ownsRow w0.heap.size 89 3 (.slice oo T.length oc) T.length (clCs T) := ownsRow_below hrA hb1; have hz1' := hb1.size; obtain ⟨x0, x1, x2⟩ := (HVA.out.below hb1).get; simp only [] at x0 x1 x2)
            | (at_builtin; refine wpList_append_own _ rfl _ _ 50 rfl w0.heap.size 89 i0 _ 3 32 Try.underlying50 hi hz0 hz1 hz2 rfl (by decide) (.slice oo T.length oc) T.length (clCs T) rfl (hr1.alloc _) ⟨w1.heap.size, 0, none⟩ 1 1 (clC ⟨tx, pe, ac⟩) rfl rfl (World.news_of_block (heap_alloc_new w1 _)) (clC_one _) (by unfold maxLen; omega) (by omega) (by simp; omega) ?_; intro v' w4 hown hgrow _; obtain ⟨ao', cap', rfl⟩ := ownsRow_shape hown))
          go_roundw
          case rel => exact ⟨i + 1, _, false, by go_num, rfl, by omega, by simp only [List.length_append, List.length_singleton]; omega, len1 HPT.out, LCl.snoc hown, HN, (hbw1.alloc hbw1.size _).grown hgrow (by simp; omega) (fun k hk => (World.ownsRow.lt hr1 k hk).1)⟩
          case measure => simp [intOf]; omega
        · have HN : Hid (insR ⟨atx, ape, aac⟩ L = ((T ++ [⟨atx, ape, aac⟩]) ++ [⟨tx, pe, ac⟩]) ++ insF true ⟨atx, ape, aac⟩ (L.drop (i + 1))) := by
            show _ = _
            rw [H.out]
            simp [insF, insR, he]
          have HQ : Hid (erl ⟨atx, ape, aac⟩ ⟨tx, pe, ac⟩ = true) := he
          clear H he
          go_wp2_with (first
            | (go_at_call 93; rw [← HWA.out]; refine HCG.out.mono ?_; rintro e w1 ⟨rfl, hb1⟩; rw [HQ.out]; have hbw1 : Below w0.heap.size w0 w1 := hbwA.trans (hb1.mono hbwA.size); have hr1 : w1.ownsRow w0.heap.size 89 3 (.slice oo T.length oc) T.length (clCs T) := ownsRow_below hrA hb1; have hz1' := hb1.size; have HX1 : Hid (ClVar w1 wr.heap.size ⟨tx, pe, ac⟩) := HVA.out.below hb1; obtain ⟨y0, y1, y2⟩ := (HV0A.out.below hb1).get; simp only [] at y0 y1 y2)
            | (at_builtin; refine wpList_append_own _ rfl _ _ 50 rfl w0.heap.size 89 i0 _ 3 32 Try.underlying50 hi hz0 hz1 hz2 rfl (by decide) (.slice oo T.length oc) T.length (clCs T) rfl (hr1.alloc _) ⟨w1.heap.size, 0, none⟩ 1 1 (clC ⟨atx, ape, aac⟩) rfl rfl (World.news_of_block (heap_alloc_new w1 _)) (clC_one _) (by unfold maxLen; omega) (by omega) (by simp; omega) ?_; intro v4 w4 hown4 hgrow4 _; obtain ⟨ao4, cap4, rfl⟩ := ownsRow_shape hown4; have hbw4 : Below w0.heap.size w0 w4 := (hbw1.alloc hbw1.size _).grown hgrow4 (by simp; omega) (fun k hk => (World.ownsRow.lt hr1 k hk).1); have hX4 : ClVar w4 wr.heap.size ⟨tx, pe, ac⟩ := (hgrow4.block wr.heap.size (by simp; omega) (fun e => by have := (World.ownsRow.lt hrow wr.heap.size e.symm).2; omega)).trans ((below_alloc w1 _).block wr.heap.size (by omega) |>.trans HX1.out); obtain ⟨x0, x1, x2⟩ := hX4.get; simp only [] at x0 x1 x2; have hz4 := hgrow4.size; simp only [World.size_alloc] at hz4; clear hX4)
            | (at_builtin; refine wpList_append_own _ rfl _ _ 50 rfl w0.heap.size 89 i0 _ 3 32 Try.underlying50 hi hz0 hz1 hz2 rfl (by decide) (.slice ao4 (T.length + 1) cap4) (T.length + 1) (clCs T ++ clC ⟨atx, ape, aac⟩) rfl (hown4.alloc _) ⟨w4.heap.size, 0, none⟩ 1 1 (clC ⟨tx, pe, ac⟩) rfl rfl (World.news_of_block (heap_alloc_new w4 _)) (clC_one _) (by unfold maxLen; omega) (by omega) (by simp; omega) ?_; intro v5 w5 hown5 hgrow5 _; obtain ⟨ao5, cap5, rfl⟩ := ownsRow_shape hown5))
          go_roundw
          case rel =>
            have h5 : w5.ownsRow w0.heap.size 89 3 (.slice ao5 (T.length + 1 + 1) cap5) ((T ++ [(⟨atx, ape, aac⟩ : Rl)]).length + 1) (clCs (T ++ [(⟨atx, ape, aac⟩ : Rl)]) ++ clC ⟨tx, pe, ac⟩) := by
              have e : clCs (T ++ [(⟨atx, ape, aac⟩ : Rl)]) = clCs T ++ clC ⟨atx, ape, aac⟩ := by simp [clCs]
              rw [e, List.length_append]; exact hown5
            exact ⟨i + 1, (T ++ [⟨atx, ape, aac⟩]) ++ [⟨tx, pe, ac⟩], true, by go_num, rfl, by omega, len2 HPT.out, len2 HPT.out, LCl.snoc h5, HN, (hbw4.alloc hbw4.size _).grown hgrow5 (by simp; omega) (fun k hk => (World.ownsRow.lt hown4 k hk).1)⟩
          case measure => simp [intOf]; omega
      · have HN : Hid (insR ⟨atx, ape, aac⟩ L = (T ++ [⟨tx, pe, ac⟩]) ++ insF true ⟨atx, ape, aac⟩ (L.drop (i + 1))) := by
          show _ = _
          rw [H.out]
          simp [insF]
        clear H HCG
        rw [HWA.out] at hrA hbwA
        go_wp2_with (at_builtin; refine wpList_append_own _ rfl _ _ 50 rfl w0.heap.size 89 i0 _ 3 32 Try.underlying50 hi hz0 hz1 hz2 rfl (by decide) (.slice oo T.length oc) T.length (clCs T) rfl (hrA.alloc _) ⟨wr.heap.size + 1, 0, none⟩ 1 1 (clC ⟨tx, pe, ac⟩) rfl rfl (World.news_of_block (heap_new_at (wr.alloc _) _ _ (by simp))) (clC_one _) (by unfold maxLen; omega) (by omega) (by simp; omega) ?_; intro v' w4 hown hgrow _; obtain ⟨ao', cap', rfl⟩ := ownsRow_shape hown)
        go_roundw
        case rel => exact ⟨i + 1, _, true, by go_num, rfl, by omega, by simp only [List.length_append, List.length_singleton]; omega, len1 HPT.out, LCl.snoc hown, HN, (hbwA.alloc hbwA.size _).grown hgrow (by simp; omega) (fun k hk => (World.ownsRow.lt hrA k hk).1)⟩
        case measure => simp [intOf]; omega
    · rw [List.drop_of_length_le (by omega)] at H
      cases pl
      · have HF : Hid (T ++ [⟨atx, ape, aac⟩] = insR ⟨atx, ape, aac⟩ L) := by
          show _ = _
          rw [H.out]
          rfl
        clear H
        go_wp2_with (at_builtin; refine wpList_append_own _ rfl _ _ 50 rfl w0.heap.size 89 i0 _ 3 32 Try.underlying50 hi hz0 hz1 hz2 rfl (by decide) (.slice oo T.length oc) T.length (clCs T) rfl (hrow.alloc _) ⟨wr.heap.size, 0, none⟩ 1 1 (clC ⟨atx, ape, aac⟩) rfl rfl (World.news_of_block (heap_alloc_new wr _)) (clC_one _) (by unfold maxLen; omega) (by omega) (by simp; omega) ?_; intro v' w4 hown hgrow _; obtain ⟨ao', cap', rfl⟩ := ownsRow_shape hown)
        go_ret
        exact ⟨⟨_, rfl, by rw [← HF.out]; exact ownsRow_base (LCl.snoc hown) hb0.size⟩, hb0.trans (((hbel.alloc hz _).grown hgrow (by simp; omega) (fun k hk => (World.ownsRow.lt hrow k hk).1)).mono hb0.size)⟩
      · have HF : Hid (T = insR ⟨atx, ape, aac⟩ L) := by
          show _ = _
          rw [H.out]
          simp [insF]
        clear H
        go_wp2_with fail
        go_ret
        exact ⟨⟨_, rfl, by rw [← HF.out]; exact ownsRow_base hrow hb0.size⟩, hbw⟩
end Go.Proofs.Ytdepfhkhkocehab

namespace Go.Proofs.Ytdepfhkhkocehab
open Go.RowKit
set_option maxRecDepth 20000

def ckR (pe bt ln : Int) : Int := if peOK pe then (if prefOK bt ln then 0 else 7) else 6
theorem checkRoute_any (pe bt ln : Int) (w : World) : Calls Try.prog 64 #[.int .i64 pe, .agg #[.int .i64 bt, .int .i64 ln]] w fun e w' => e = .returned (.int .i64 (ckR pe bt ln)) ∧ Below w.heap.size w w' := by
  obtain ⟨R, hR⟩ : ∃ R, R = ckR pe bt ln := ⟨_, rfl⟩
  have HR : Hid (R = ckR pe bt ln) := hR
  rw [← hR]; clear hR
  cases hp : peOK pe
  · have HF : Hid (R = 6) := by show _ = _; rw [HR.out]; unfold ckR; rw [hp]; rfl
    have HQ : Hid (peOK pe = false) := hp
    clear HR hp
    go_enter Try.func64, Try.ntmps64
    go_wp2_with (go_at_call 72; refine (isPeer_any _ _).mono ?_; rintro e w' ⟨rfl, rfl⟩; rw [HQ.out])
    go_ret
    exact ⟨by rw [HF.out]; rfl, below_alloc _ _⟩
  · have HQ : Hid (peOK pe = true) := hp
    cases hq : prefOK bt ln
    · have HF : Hid (R = 7) := by show _ = _; rw [HR.out]; unfold ckR; rw [hp, hq]; rfl
      have HQ2 : Hid (prefOK bt ln = false) := hq
      clear HR hp hq
      go_enter Try.func64, Try.ntmps64
      go_wp2_with (first
        | (go_at_call 72; refine (isPeer_any _ _).mono ?_; rintro e w' ⟨rfl, rfl⟩; rw [HQ.out])
        | (go_at_call 85; refine (isPrefix_any _ _ _).mono ?_; rintro e w1 ⟨rfl, hb1⟩; rw [HQ2.out]))
      go_ret
      exact ⟨by rw [HF.out]; rfl, below_first hb1⟩
    · have HF : Hid (R = 0) := by show _ = _; rw [HR.out]; unfold ckR; rw [hp, hq]; rfl
      have HQ2 : Hid (prefOK bt ln = true) := hq
      clear HR hp hq
      go_enter Try.func64, Try.ntmps64
      go_wp2_with (first
        | (go_at_call 72; refine (isPeer_any _ _).mono ?_; rintro e w' ⟨rfl, rfl⟩; rw [HQ.out])
        | (go_at_call 85; refine (isPrefix_any _ _ _).mono ?_; rintro e w1 ⟨rfl, hb1⟩; rw [HQ2.out]))
      go_ret
      exact ⟨by rw [HF.out]; rfl, below_first hb1⟩
def ckC (pe : Int) (tx : ByteArray) : Int := if peOK pe then (if (decS tx).isSome then 0 else 1) else 6
theorem checkClaim_any (pe : Int) (tx : ByteArray) (w : World) (hs : tx.size ≤ 140737488351232) : Calls Try.prog 67 #[.int .i64 pe, .string tx] w fun e w' => e = .returned (.int .i64 (ckC pe tx)) ∧ Below w.heap.size w w' := by
  obtain ⟨R, hR⟩ : ∃ R, R = ckC pe tx := ⟨_, rfl⟩
  have HR : Hid (R = ckC pe tx) := hR
  rw [← hR]; clear hR
  cases hp : peOK pe
  · have HF : Hid (R = 6) := by show _ = _; rw [HR.out]; unfold ckC; rw [hp]; rfl
    have HQ : Hid (peOK pe = false) := hp
    clear HR hp
    go_enter Try.func67, Try.ntmps67
    go_wp2_with (go_at_call 72; refine (isPeer_any _ _).mono ?_; rintro e w' ⟨rfl, rfl⟩; rw [HQ.out])
    go_ret
    exact ⟨by rw [HF.out]; rfl, Below.refl _ _⟩
  · have HQ : Hid (peOK pe = true) := hp
    have HF : Hid (R = eS tx) := by
      show _ = _
      rw [HR.out]
      unfold ckC
      rw [hp, if_pos rfl]
      cases hd : (decS tx).isSome
      · rw [eS_none hd]; rfl
      · rw [eS_some hd]; rfl
    clear HR hp
    go_enter Try.func67, Try.ntmps67
    go_wp2_with (first
      | (go_at_call 72; refine (isPeer_any _ _).mono ?_; rintro e w' ⟨rfl, rfl⟩; rw [HQ.out])
      | (go_at_call 14; refine (flow2 tx _ hs).mono ?_; rintro e w1 ⟨hb1, ao, cap, qs, rfl, hq, hrule⟩))
    go_ret
    exact ⟨by rw [HF.out]; rfl, hb1.alloc hb1.size _⟩

/-- A call that changes nothing. -/
theorem LPost.no {F : Nat → Prop} {w w' : World} {g : Nat} {st st' : Gs} {x y : Int} (h : LGate w g st F) (hb : Below w.heap.size w w') (hx : Hid (x = y)) (hs : Hid (st' = st)) : XPost LGate F w g x st' (.returned (.tuple #[.slice none 0 0, .int .i64 y])) w' :=
  ⟨none, 0, 0, F, st, by rw [hx.out], fun _ => rfl, by rw [hs.out]; exact Sim.refl _, h.same hb.size (fun b hf => hb.block b (h.lt b hf)), fun b hf => .inl hf, Off.of hb⟩
/-- Another row of routes, of claims, in the gate's place. -/
theorem LGate.setR {w w4 : World} {g : Nat} {st : Gs} {F : Nat → Prop} {v : Value} {rts : List Rt} (h : LGate w g st F) (hb : Off F w w4) (hg4 : w4.heap[g]? = w.heap[g]?) (hl4 : ∀ b, F b → b ≠ g → (∀ rv, w.cell? ⟨g, 6, none⟩ = some rv → rv.ownBlock ≠ some b) → w4.heap[b]? = w.heap[b]?) (hrow : w4.ownsRow 0 122 4 v rts.length (rtCs rts)) (hv : ∀ b, v.ownBlock = some b → b ≠ g ∧ ((∀ lv, w.cell? ⟨g, 7, none⟩ = some lv → lv.ownBlock ≠ some b)) ∧ (F b ∨ w.heap.size ≤ b)) (hok : GsOK { st with rts := rts }) :
    ∃ F', LGate (w4.setCell ⟨g, 6, none⟩ v) g { st with rts := rts } F' ∧ (∀ b, F' b → F b ∨ w.heap.size ≤ b) ∧ Off F w (w4.setCell ⟨g, 6, none⟩ v) := by
  obtain ⟨rv, lv, h1, h2, h3, h4, h5, h6⟩ := h.ex
  have hg := h.lt g h.own
  have hsz : (w4.setCell ⟨g, 6, none⟩ v).heap.size = w4.heap.size := by simp only [World.setCell, Array.size_modify]
  have hz := hb.size
  have e1 : w4.heap[g]? = _ := hg4.trans h1
  have e2 := heap_setCell_same w4 g 6 _ _ v e1
  have oth : ∀ b, b ≠ g → (w4.setCell ⟨g, 6, none⟩ v).heap[b]? = w4.heap[b]? := fun b hne => Below.heap_setCell _ _ _ _ hne
  have c6 := cell_of_row w g 6 _ _ _ h1
  have c7 := cell_of_row w g 7 _ _ _ h1
  have hl : ∀ b, lv.ownBlock = some b → w4.heap[b]? = w.heap[b]? := fun b hbk => hl4 b (h5 b hbk).1 (h5 b hbk).2 (fun rv' hr e => by
    have : some rv' = some rv := hr.symm.trans c6
    injection this with e'
    subst e'
    exact h6 b e hbk)
  refine ⟨Fr F w w4, ⟨⟨v, lv, e2, ownsRow_same hrow (fun b hbk => oth b (hv b hbk).1), ownsRow_same h3 (fun b hbk => (oth b (h5 b hbk).2).trans (hl b hbk)), ?_, fun b hbk => ⟨.inl (h5 b hbk).1, (h5 b hbk).2⟩, fun b hbk => (hv b hbk).2.1 lv c7⟩, .inl h.own, hok, h.srt, h.sz, ?_⟩, ?_, hb.setCell (.inl h.own) v⟩
  · intro b hbk
    refine ⟨?_, (hv b hbk).1⟩
    rcases (hv b hbk).2.2 with hf | hf
    · exact .inl hf
    · exact .inr ⟨hf, (World.ownsRow.lt hrow b hbk).2⟩
  · intro b hf
    rw [hsz]
    rcases hf with hf | hf
    · have := h.lt b hf; omega
    · exact hf.2
  · intro b hf
    rcases hf with hf | hf
    · exact .inl hf
    · exact .inr hf.1
theorem LGate.setC {w w4 : World} {g : Nat} {st : Gs} {F : Nat → Prop} {v : Value} {rls : List Rl} (h : LGate w g st F) (hb : Below w.heap.size w w4) (hrow : w4.ownsRow w.heap.size 89 3 v rls.length (clCs rls)) (hok : GsOK { st with rls := rls }) (hsrt : Srt rls) (hsz0 : ∀ r ∈ rls, r.tx.size ≤ 140737488351232) :
    ∃ F', LGate (w4.setCell ⟨g, 7, none⟩ v) g { st with rls := rls } F' ∧ (∀ b, F' b → F b ∨ w.heap.size ≤ b) ∧ Off F w (w4.setCell ⟨g, 7, none⟩ v) := by
  obtain ⟨rv, lv, h1, h2, h3, h4, h5, h6⟩ := h.ex
  have hg := h.lt g h.own
  have hsz : (w4.setCell ⟨g, 7, none⟩ v).heap.size = w4.heap.size := by simp only [World.setCell, Array.size_modify]
  have hz := hb.size
  have e1 : w4.heap[g]? = _ := (hb.block g hg).trans h1
  have e2 := heap_setCell_same w4 g 7 _ _ v e1
  have oth : ∀ b, b ≠ g → (w4.setCell ⟨g, 7, none⟩ v).heap[b]? = w4.heap[b]? := fun b hne => Below.heap_setCell _ _ _ _ hne
  have old : ∀ b, F b → b ≠ g → (w4.setCell ⟨g, 7, none⟩ v).heap[b]? = w.heap[b]? := fun b hf hne => (oth b hne).trans (hb.block b (h.lt b hf))
  have hvb : ∀ b, v.ownBlock = some b → w.heap.size ≤ b ∧ b < w4.heap.size := fun b hbk => World.ownsRow.lt hrow b hbk
  refine ⟨Fr F w w4, ⟨⟨rv, v, e2, ownsRow_same h2 (fun b hbk => old b (h4 b hbk).1 (h4 b hbk).2), ownsRow_base (ownsRow_same hrow (fun b hbk => oth b (by have := hvb b hbk; omega))) (Nat.zero_le _), fun b hbk => ⟨.inl (h4 b hbk).1, (h4 b hbk).2⟩, fun b hbk => ⟨.inr (hvb b hbk), by have := hvb b hbk; omega⟩, fun b hbk e => by have := hvb b e; have := h.lt b (h4 b hbk).1; omega⟩, .inl h.own, hok, hsrt, hsz0, ?_⟩, ?_, (Off.of hb).setCell (.inl h.own) v⟩
  · intro b hf
    rw [hsz]
    rcases hf with hf | hf
    · have := h.lt b hf; omega
    · exact hf.2
  · intro b hf
    rcases hf with hf | hf
    · exact .inl hf
    · exact .inr hf.1
/-- Where the new row of routes is a fresh one. -/
theorem LGate.setR' {w w4 : World} {g : Nat} {st : Gs} {F : Nat → Prop} {v : Value} {rts : List Rt} (h : LGate w g st F) (hb : Below w.heap.size w w4) (hrow : w4.ownsRow w.heap.size 122 4 v rts.length (rtCs rts)) (hok : GsOK { st with rts := rts }) :
    ∃ F', LGate (w4.setCell ⟨g, 6, none⟩ v) g { st with rts := rts } F' ∧ (∀ b, F' b → F b ∨ w.heap.size ≤ b) ∧ Off F w (w4.setCell ⟨g, 6, none⟩ v) := by
  obtain ⟨rv, lv, h1, h2, h3, h4, h5, h6⟩ := h.ex
  refine h.setR (Off.of hb) (hb.block g (h.lt g h.own)) (fun b hf _ _ => hb.block b (h.lt b hf)) (ownsRow_base hrow (Nat.zero_le _)) (fun b hbk => ?_) hok
  have hvb := World.ownsRow.lt hrow b hbk
  refine ⟨by have := h.lt g h.own; omega, fun lv' hl e => ?_, .inr hvb.1⟩
  have c7 := cell_of_row w g 7 _ _ _ h1
  have : some lv' = some lv := hl.symm.trans c7
  injection this with e'
  subst e'
  have := h.lt b (h5 b e).1
  omega

theorem anS_nz {st : Gs} {pe bt ln pa : Int} (h : anE st pe bt ln pa ≠ 0) : anS st pe bt ln pa = st := by unfold anS; rw [if_neg h]
theorem wiS_nz {st : Gs} {pe bt ln : Int} (h : wiE st pe bt ln ≠ 0) : wiS st pe bt ln = st := by unfold wiS; rw [if_neg h]
theorem adS_nz {st : Gs} {pe : Int} {tx : ByteArray} {ac : Int} (h : adE st pe tx ac ≠ 0) : adS st pe tx ac = st := by unfold adS; rw [if_neg h]
theorem reS_nz {st : Gs} {pe : Int} {tx : ByteArray} (h : reE st pe tx ≠ 0) : reS st pe tx = st := by unfold reS; rw [if_neg h]

set_option maxHeartbeats 1600000 in
theorem landWithdraw_any (g : Nat) (st : Gs) (F : Nat → Prop) (pe bt ln : Int) (w : World) (h : LGate w g st F) :
    Calls Try.prog 40 #[.pointer (some ⟨g, 0, none⟩), .int .i64 pe, .agg #[.int .i64 bt, .int .i64 ln]] w fun e w' => XPost LGate F w g (wiE st pe bt ln) (wiS st pe bt ln) e w' := by
  have HH : Hid (LGate w g st F) := h
  obtain ⟨ao, cap, lo, lc, hread, c7, hcl, f6, f7⟩ := h.read
  have HG : Hid (GRead w g st.c ao cap st.rts) := hread
  have hgz := hread.lt
  have h24 := hread.r24
  clear h hread hcl c7 f7
  obtain ⟨wA, hwA⟩ : ∃ wA, wA = w.alloc (.cells #[.int .i64 bt, .int .i64 ln] 65) := ⟨_, rfl⟩
  have HWA : Hid (wA = w.alloc (.cells #[.int .i64 bt, .int .i64 ln] 65)) := hwA
  have hbA : Below w.heap.size w wA := by rw [hwA]; exact below_alloc _ _
  have HPA : Hid (PfVar wA w.heap.size bt ln) := by show _ = _; rw [hwA]; exact heap_alloc_new w _
  clear hwA
  have hzA := hbA.size
  cases hck : (peOK pe && prefOK bt ln)
  · have hx : wiE st pe bt ln = ckR pe bt ln ∧ ckR pe bt ln ≠ 0 := by
      unfold wiE ckR
      cases hp : peOK pe
      · simp
      · cases hq : prefOK bt ln
        · simp
        · rw [hp, hq] at hck; simp at hck
    have HX : Hid (wiE st pe bt ln = ckR pe bt ln) := hx.1
    have HS : Hid (wiS st pe bt ln = st) := wiS_nz (by rw [hx.1]; exact hx.2)
    have q1 : (ckR pe bt ln != 0) = true := by simpa using hx.2
    clear hx hck
    go_enter Try.func40, Try.ntmps40
    go_wp2_with (go_at_call 64; rw [← HWA.out]; refine (checkRoute_any _ _ _ _).mono ?_; rintro e w1 ⟨rfl, hb1⟩)
    go_ret2
    exact LPost.no HH.out (hbA.trans (hb1.mono hzA)) HX HS
  · rw [Bool.and_eq_true] at hck
    have hc0 : ckR pe bt ln = 0 := by unfold ckR; rw [hck.1, hck.2]; rfl
    have HC : Hid (∀ w, Calls Try.prog 64 #[.int .i64 pe, .agg #[.int .i64 bt, .int .i64 ln]] w fun e w' => e = .returned (.int .i64 0) ∧ Below w.heap.size w w') := fun w => by rw [← hc0]; exact checkRoute_any pe bt ln w
    have HPL : Hid (∀ w', Below w.heap.size w w' → Calls Try.prog 65 #[.slice ao st.rts.length cap, .int .i64 pe, .agg #[.int .i64 bt, .int .i64 ln]] w' fun e w'' => e = .returned (.int .i64 (plR st.rts pe bt ln : Nat)) ∧ Below w.heap.size w w'' ∧ Below w'.heap.size w' w'') := fun w' hb' => (placeOfRoute_any st.rts ao cap pe bt ln w' (HG.out.rin.below hb') h24).mono fun e w'' h'' => ⟨h''.1, hb'.trans (h''.2.mono hb'.size), h''.2⟩
    have HRW : Hid (∀ (k : Nat) w', Below w.heap.size w w' → Calls Try.prog 70 #[.slice ao st.rts.length cap, .int .i64 (k : Int)] w' fun e w'' => (∃ v, e = .returned v ∧ LRt w'' w'.heap.size v (st.rts.eraseIdx k)) ∧ Below w'.heap.size w' w'') := fun k w' hb' => routesWithout_any st.rts ao cap k w' (HG.out.rin.below hb') h24
    go_enter Try.func40, Try.ntmps40
    go_upto_region 4 with (go_at_call 64; rw [← HWA.out]; refine (HC.out _).mono ?_; rintro e w1 ⟨rfl, hb1⟩)
    have hbw1 : Below w.heap.size w w1 := hbA.trans (hb1.mono hzA)
    have HP1 : Hid (PfVar w1 w.heap.size bt ln) := HPA.out.below hb1
    obtain ⟨p0, p1, _, _⟩ := HP1.out.get
    have c6 := (HG.out.below hbw1).rv
    have HSS : Hid (∀ w', Below w1.heap.size w1 w' → w'.cell? ⟨g, 6, none⟩ = some (.slice ao st.rts.length cap) ∧ w'.cell? ⟨w.heap.size, 0, none⟩ = some (.int .i64 bt) ∧ w'.cell? ⟨w.heap.size, 1, none⟩ = some (.int .i64 ln) ∧ Below w1.heap.size w1 w') := fun w' hx =>
      ⟨(hx.cell (p := ⟨g, 6, none⟩) (by show g < w1.heap.size; have := hbw1.size; omega)).trans c6, (hx.cell (p := ⟨w.heap.size, 0, none⟩) (lt_of_block HP1.out)).trans p0, (hx.cell (p := ⟨w.heap.size, 1, none⟩) (lt_of_block HP1.out)).trans p1, hx⟩
    have HPL1 : Hid (∀ w', Below w1.heap.size w1 w' → Calls Try.prog 65 #[.slice ao st.rts.length cap, .int .i64 pe, .agg #[.int .i64 bt, .int .i64 ln]] w' fun e w'' => e = .returned (.int .i64 (plR st.rts pe bt ln : Nat)) ∧ Below w1.heap.size w1 w'') := fun w' hb' => (HPL.out w' (hbw1.trans (hb'.mono hbw1.size))).mono fun e w'' h'' => ⟨h''.1, hb'.trans (h''.2.2.mono hb'.size)⟩
    clear p0 p1 c6 HPL hb1
    go_region_held3 (fun w' => w'.cell? ⟨g, 6, none⟩ = some (.slice ao st.rts.length cap) ∧ w'.cell? ⟨w.heap.size, 0, none⟩ = some (.int .i64 bt) ∧ w'.cell? ⟨w.heap.size, 1, none⟩ = some (.int .i64 ln) ∧ Below w1.heap.size w1 w')
      (first | exact HSS.out _ (by assumption) | exact HSS.out _ (Below.refl _ _).drew)
      (first | (go_at_call 65; refine (HPL1.out _ ?_).mono ?_; (exact (Below.refl _ _).drew); rintro e w3 ⟨rfl, hb3⟩))
    have hbw3 : Below w.heap.size w w3 := hbw1.trans (hb3.mono hbw1.size)
    have k6 := (HG.out.below hbw3).rv
    have kf := (hbw3.frozen (p := ⟨g, 6, none⟩) hgz).trans f6
    have HW3 : Hid (Below w.heap.size w w3) := hbw3
    clear HPL1 HSS hb3 hbw1
    by_cases hpl : plR st.rts pe bt ln < st.rts.length
    · have hx := wiE_at HH.out.ok hck.1 hck.2 hpl
      have HX : Hid (wiE st pe bt ln = 0) := hx.1
      have HS : Hid (wiS st pe bt ln = ⟨st.c, st.rts.eraseIdx (plR st.rts pe bt ln), st.rls⟩) := hx.2
      have HOK : Hid (GsOK (wiS st pe bt ln)) := HH.out.ok.wi pe bt ln
      clear hx hck hc0
      generalize plR st.rts pe bt ln = k at *
      go_wp2_with (go_at_call 70; refine (HRW.out k _ HW3.out).mono ?_; rintro e w4 ⟨⟨v, rfl, hrow⟩, hb4⟩; obtain ⟨vo, vc, rfl⟩ := ownsRow_shape hrow; have hbw4 : Below w.heap.size w w4 := HW3.out.trans (hb4.mono HW3.out.size); have y6 := (HG.out.below hbw4).rv; have yf := (hbw4.frozen (p := ⟨g, 6, none⟩) hgz).trans f6)
      go_ret2
      obtain ⟨F', r1, r2, r3⟩ := HH.out.setR' hbw4 (ownsRow_base hrow HW3.out.size) (by have := HOK.out; rw [HS.out] at this; exact this)
      exact ⟨none, 0, 0, F', _, by rw [HX.out]; rfl, fun _ => rfl, by rw [HS.out]; exact Sim.refl _, r1, r2, r3⟩
    · have hx := wiE_none (st := st) hck.1 hck.2 hpl
      have HX : Hid (wiE st pe bt ln = 11) := hx
      have HS : Hid (wiS st pe bt ln = st) := wiS_nz (by rw [hx]; decide)
      have g5 : st.rts.length ≤ plR st.rts pe bt ln := by omega
      clear hx hck hc0 hpl
      generalize plR st.rts pe bt ln = k at *
      go_wp2_with fail
      go_ret2
      exact LPost.no HH.out HW3.out HX HS
end Go.Proofs.Ytdepfhkhkocehab
