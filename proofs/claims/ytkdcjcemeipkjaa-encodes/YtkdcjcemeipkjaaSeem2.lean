import Derived.Test.YtkdcjcemeipkjaaSeem1
namespace Go.Proofs.Ytkdcjcemeipkjaa
open Go.RowKit
set_option maxRecDepth 20000

/-- What has been gathered of what bytes seem to say. -/
structure SmSt (s : ByteArray) (ts : List Tm) (n : Nat) : Prop where
  len : ts.length ≤ 9
  low : 1 ≤ n
  place : n ≤ 1 + 3 * ts.length
  rest : smT s 9 1 = (ts ++ (smT s (9 - ts.length) n).1, (smT s (9 - ts.length) n).2)

theorem SmSt.start (s : ByteArray) : SmSt s [] 1 := ⟨by simp, by omega, by simp, by simp⟩

def smTm (s : ByteArray) (n : Nat) : Tm := ⟨mAnd (byt s n), mWide (byt s n), byt s n % 8, if mWide (byt s n) then 256 * byt s (n + 1) + byt s (n + 2) else byt s (n + 1)⟩
def smN (s : ByteArray) (n : Nat) : Nat := if mWide (byt s n) then n + 3 else n + 2

theorem smT_last (s : ByteArray) (f n : Nat) (h : mLast (byt s n) = true) : smT s (f + 1) n = ([smTm s n], smN s n) := by
  unfold smT; dsimp only; rw [if_pos h]; rfl
theorem smT_more (s : ByteArray) (f n : Nat) (h : mLast (byt s n) = false) : smT s (f + 1) n = (smTm s n :: (smT s f (smN s n)).1, (smT s f (smN s n)).2) := by
  conv => lhs; unfold smT
  dsimp only; rw [if_neg (by simp [h])]; rfl

theorem SmSt.last {s : ByteArray} {ts : List Tm} {n : Nat} (h : SmSt s ts n) (h9 : ts.length < 9) (hl : mLast (byt s n) = true) : smT s 9 1 = (ts ++ [smTm s n], smN s n) := by
  rw [h.rest]
  obtain ⟨f, hf⟩ : ∃ f, 9 - ts.length = f + 1 := ⟨8 - ts.length, by omega⟩
  rw [hf, smT_last s f n hl]
theorem SmSt.more {s : ByteArray} {ts : List Tm} {n : Nat} (h : SmSt s ts n) (h9 : ts.length < 9) (hl : mLast (byt s n) = false) : SmSt s (ts ++ [smTm s n]) (smN s n) := by
  have hp := h.place
  have hlow := h.low
  have hN : smN s n ≤ n + 3 ∧ n ≤ smN s n := by unfold smN; split <;> omega
  refine ⟨by simp; omega, by omega, by simp; omega, ?_⟩
  rw [h.rest]
  obtain ⟨f, hf⟩ : ∃ f, 9 - ts.length = f + 1 := ⟨8 - ts.length, by omega⟩
  have hf' : 9 - (ts ++ [smTm s n]).length = f := by simp; omega
  rw [hf', hf, smT_more s f n hl]
  simp
theorem SmSt.full {s : ByteArray} {ts : List Tm} {n : Nat} (h : SmSt s ts n) (h9 : ¬ ts.length < 9) : smT s 9 1 = (ts, n) := by
  have := h.len
  have e : 9 - ts.length = 0 := by omega
  rw [h.rest, e]; simp [smT]

/-- Behind an append of one term to the row in the part's own variable. -/
structure PV (w : World) (wr : World) (ty : Int) (v : Value) (ts : List Tm) : Prop where
  bel : Below (w.heap.size + 1) (w.alloc (.cells #[.int .i64 0, .int .i64 0, .int .i64 0, .slice none 0 0] 35)) wr
  box : wr.heap[w.heap.size + 1]? = some (.cells #[.int .i64 ty, .int .i64 0, .int .i64 0, v] 35 (0, 0))
  own : wr.ownsRow (w.heap.size + 2) 63 4 v ts.length (tcells ts)

theorem four_setCell3 {w : World} {M : Nat} {x y z u v : Value} {t : TypeId} (h : w.heap[M]? = some (.cells #[x, y, z, v] t (0, 0))) : (w.setCell ⟨M, 3, none⟩ u).heap[M]? = some (.cells #[x, y, z, u] t (0, 0)) := by
  simp [World.setCell, Array.getElem?_modify, h]

theorem pv_cells {w wr : World} {ty : Int} {v : Value} (bel : Below (w.heap.size + 1) (w.alloc (.cells #[.int .i64 0, .int .i64 0, .int .i64 0, .slice none 0 0] 35)) wr) (hx : wr.heap[w.heap.size + 1]? = some (.cells #[.int .i64 ty, .int .i64 0, .int .i64 0, v] 35 (0, 0))) :
    wr.cell? ⟨w.heap.size + 1, 0, none⟩ = some (.int .i64 ty) ∧ wr.cell? ⟨w.heap.size + 1, 1, none⟩ = some (.int .i64 0) ∧ wr.cell? ⟨w.heap.size + 1, 2, none⟩ = some (.int .i64 0) ∧ wr.cell? ⟨w.heap.size + 1, 3, none⟩ = some v ∧
    wr.frozen? ⟨w.heap.size + 1, 3, none⟩ = false ∧ w.heap.size + 2 ≤ wr.heap.size ∧
    wr.cell? ⟨w.heap.size, 0, none⟩ = some (.int .i64 0) ∧ wr.cell? ⟨w.heap.size, 1, none⟩ = some (.int .i64 0) ∧ wr.cell? ⟨w.heap.size, 2, none⟩ = some (.int .i64 0) ∧ wr.cell? ⟨w.heap.size, 3, none⟩ = some (.slice none 0 0) ∧
    ∀ o, wr.frozen? ⟨w.heap.size, o, none⟩ = false := by
  have hb : Below (w.alloc (.cells #[.int .i64 0, .int .i64 0, .int .i64 0, .slice none 0 0] 35)).heap.size (w.alloc (.cells #[.int .i64 0, .int .i64 0, .int .i64 0, .slice none 0 0] 35)) wr := bel.mono (by simp)
  obtain ⟨r0, r1, r2, r3, rf, _⟩ := cells_of_below hb
  exact ⟨by simp [World.cell?, hx], by simp [World.cell?, hx], by simp [World.cell?, hx], by simp [World.cell?, hx], by simp [World.frozen?, hx], lt_of_block hx, r0, r1, r2, r3, rf⟩

theorem PV.mid {w wr wt w1 : World} {ty : Int} {v : Value} {ts : List Tm} {o : Obj} (h : PV w wr ty v ts) (hb : Below wr.heap.size wr wt) (hg : (wt.alloc o).grownBy w1 v.ownBlock) :
    Below (w.heap.size + 1) (w.alloc (.cells #[.int .i64 0, .int .i64 0, .int .i64 0, .slice none 0 0] 35)) w1 ∧ w1.heap[w.heap.size + 1]? = some (.cells #[.int .i64 ty, .int .i64 0, .int .i64 0, v] 35 (0, 0)) := by
  have hz := lt_of_block h.box
  have hz2 := hb.size
  have hr : ∀ k, v.ownBlock = some k → w.heap.size + 2 ≤ k := fun k hk => (h.own.lt k hk).1
  refine ⟨((h.bel.trans (hb.mono (by omega))).alloc (by omega) o).grown hg (by simp; omega) (fun k hk => by have := hr k hk; omega), ?_⟩
  rw [hg.block _ (by simp; omega) (fun e => by have := hr _ e.symm; omega), Below.heap_alloc _ _ _ (by omega), hb.block _ (by omega)]
  exact h.box

theorem PV.app {w wr wt w1 : World} {ty : Int} {v v' : Value} {ts : List Tm} {t : Tm} {o : Obj} (h : PV w wr ty v ts) (hb : Below wr.heap.size wr wt) (hg : (wt.alloc o).grownBy w1 v.ownBlock) (ho : w1.ownsRow (w.heap.size + 2) 63 4 v' (ts.length + 1) (tcells ts ++ tcell t)) :
    PV w (w1.setCell ⟨w.heap.size + 1, 3, none⟩ v') ty v' (ts ++ [t]) := by
  obtain ⟨m1, m2⟩ := h.mid hb hg
  exact ⟨m1.setCell (by simp) _, four_setCell3 m2, ownsRow_setCell_below (ownsTerms_snoc ho) (by simp) _⟩

theorem PV.out {w wr : World} {ty : Int} {v : Value} {ts : List Tm} (h : PV w wr ty v ts) (a b c d : Value) :
    Below w.heap.size w ((((wr.setCell ⟨w.heap.size, 0, none⟩ a).setCell ⟨w.heap.size, 1, none⟩ b).setCell ⟨w.heap.size, 2, none⟩ c).setCell ⟨w.heap.size, 3, none⟩ d) ∧
    ((((wr.setCell ⟨w.heap.size, 0, none⟩ a).setCell ⟨w.heap.size, 1, none⟩ b).setCell ⟨w.heap.size, 2, none⟩ c).setCell ⟨w.heap.size, 3, none⟩ d).ownsRow w.heap.size 63 4 v ts.length (tcells ts) :=
  ⟨below_set4 (below_first' h.bel) _ _ _ _, ownsRow_base (owns_set4 h.own (by omega) _ _ _ _) (by omega)⟩

def SmPost (s : ByteArray) (B : Nat) (e : Ending) (w' : World) : Prop :=
  ∃ v, e = .returned (.tuple #[.agg #[.int .i64 (byt s 0), .int .i64 0, .int .i64 0, v], .int .i64 (smT s 9 1).2]) ∧ w'.ownsRow B 63 4 v (smT s 9 1).1.length (tcells (smT s 9 1).1)

theorem SmPost.mk' {s : ByteArray} {B : Nat} {w' : World} {v : Value} {ts : List Tm} {n : Nat} {n' : Int} (h : Hid (smT s 9 1 = (ts, n))) (hn : n' = n) (ho : w'.ownsRow B 63 4 v ts.length (tcells ts)) :
    SmPost s B (.returned (.tuple #[.agg #[.int .i64 (byt s 0), .int .i64 0, .int .i64 0, v], .int .i64 n'])) w' := by
  unfold SmPost; rw [h.out, hn]; exact ⟨v, rfl, ho⟩

set_option maxHeartbeats 3200000 in
theorem seems_terms (s : ByteArray) (w : World) (hs : s.size ≤ 140737488351232) (h : ¬ byt s 0 ≤ 2) :
    Calls Try.prog 25 #[.string s] w fun e w' => Below w.heap.size w w' ∧ SmPost s w.heap.size e w' := by
  obtain ⟨i0, hi, hz0, hz1, hz2⟩ := info_parts infoTerm
  go_enter Try.func25, Try.ntmps25
  go_wp2_with (go_at_call 43; refine (at_any _ _ _ (by omega) hs).mono ?_; rintro e w' ⟨rfl, rfl⟩)
  go_loopw [6] (fun i wr => ∃ (n : Nat) (v : Value) (ts : List Tm), i = .int .i64 n ∧ PV w wr (byt s 0) v ts ∧ SmSt s ts n) (fun i _ => 40 - (intOf i).toNat)
  case atStart => exact ⟨1, .slice none 0 0, [], rfl, ⟨(Below.refl _ _).alloc (by simp) _, by have := heap_alloc_new (w.alloc (.cells #[.int .i64 0, .int .i64 0, .int .i64 0, .slice none 0 0] 35)) (.cells #[.int .i64 (byt s 0), .int .i64 0, .int .i64 0, .slice none 0 0] 35); simpa using this, World.ownsRow_nil _ _ _ _⟩, SmSt.start s⟩
  case round =>
    obtain ⟨n, v, ts, rfl, hpv, hst⟩ := hrel
    obtain ⟨ao, cap, rfl⟩ := ownsRow_shape hpv.own
    obtain ⟨a0, a1, a2, a3, af, az, r0, r1, r2, r3, rf⟩ := pv_cells hpv.bel hpv.box
    have az1 : w.heap.size + 1 < wr.heap.size := by omega
    have az0 : w.heap.size < wr.heap.size := by omega
    have hlen := hst.len
    have hpl := hst.place
    have hlow := hst.low
    have b0 := byt_nonneg s n
    have b1 := byt_le s n
    by_cases h9 : ts.length < 9
    · have x1 := byt_nonneg s (n + 1)
      have y1 := byt_le s (n + 1)
      have x2 := byt_nonneg s (n + 2)
      have y2 := byt_le s (n + 2)
      have eA : (byt s n / 64 % 2 == 1) = mAnd (byt s n) := by unfold mAnd; by_cases hh : byt s n / 64 % 2 = 1 <;> simp [hh]
      have eW : (byt s n / 16 % 2 == 1) = mWide (byt s n) := by unfold mWide; by_cases hh : byt s n / 16 % 2 = 1 <;> simp [hh]
      have eL : decide (128 ≤ byt s n) = mLast (byt s n) := rfl
      cases hw : mWide (byt s n)
      · have hT : Hid (smTm s n = ⟨mAnd (byt s n), false, byt s n % 8, byt s (n + 1)⟩) := by show _ = _; unfold smTm; simp [hw]
        have hN : Hid (smN s n = n + 2) := by show _ = _; unfold smN; simp [hw]
        cases hl : mLast (byt s n)
        · have HM : Hid (SmSt s (ts ++ [smTm s n]) (smN s n)) := hst.more h9 hl
          clear hst
          go_wp2_with (first
            | (go_at_call 43; refine (at_any _ _ _ (by omega) hs).mono ?_; rintro e w' ⟨rfl, rfl⟩)
            | (at_builtin; refine wpList_append_own _ rfl _ _ 33 rfl (w.heap.size + 2) 63 i0 _ 4 24 Try.underlying33 hi hz0 hz1 hz2 rfl (by decide) _ _ _ rfl ((hpv.own.alloc _).alloc _) ⟨wr.heap.size + 1, 0, none⟩ 1 1 (tcell ⟨mAnd (byt s n), false, byt s n % 8, byt s (n + 1)⟩) rfl rfl (cell_four_new' _ _ _ _ _ _ _ (by simp)) (tcell_one _) (by unfold maxLen; omega) (by omega) (by simp; omega) ?_; intro v' w1 ho hg _; obtain ⟨ao', cap', rfl⟩ := ownsRow_shape ho; obtain ⟨m1, m2⟩ := hpv.mid (below_alloc _ _) hg; have hpv2 := hpv.app (below_alloc _ _) hg ho; obtain ⟨d0, d1, d2, d3, df, dz, s0, s1, s2, s3, sf⟩ := pv_cells m1 m2; have dz1 : w.heap.size + 1 < w1.heap.size := (by omega); have dz0 : w.heap.size < w1.heap.size := (by omega); clear m1 m2 ho hg))
          all_goals
            go_roundw
            case rel =>
              have h2 := HM.out
              rw [hT.out, hN.out] at h2
              exact ⟨_, _, _, by go_num, hpv2, h2⟩
            case measure => simp [intOf]; omega
        · have HM : Hid (smT s 9 1 = (ts ++ [smTm s n], smN s n)) := hst.last h9 hl
          clear hst
          go_wp2_with (first
            | (go_at_call 43; refine (at_any _ _ _ (by omega) hs).mono ?_; rintro e w' ⟨rfl, rfl⟩)
            | (at_builtin; refine wpList_append_own _ rfl _ _ 33 rfl (w.heap.size + 2) 63 i0 _ 4 24 Try.underlying33 hi hz0 hz1 hz2 rfl (by decide) _ _ _ rfl ((hpv.own.alloc _).alloc _) ⟨wr.heap.size + 1, 0, none⟩ 1 1 (tcell ⟨mAnd (byt s n), false, byt s n % 8, byt s (n + 1)⟩) rfl rfl (cell_four_new' _ _ _ _ _ _ _ (by simp)) (tcell_one _) (by unfold maxLen; omega) (by omega) (by simp; omega) ?_; intro v' w1 ho hg _; obtain ⟨ao', cap', rfl⟩ := ownsRow_shape ho; obtain ⟨m1, m2⟩ := hpv.mid (below_alloc _ _) hg; have hpv2 := hpv.app (below_alloc _ _) hg ho; obtain ⟨d0, d1, d2, d3, df, dz, s0, s1, s2, s3, sf⟩ := pv_cells m1 m2; have dz1 : w.heap.size + 1 < w1.heap.size := (by omega); have dz0 : w.heap.size < w1.heap.size := (by omega); clear m1 m2 ho hg))
          all_goals
            rw [hT.out, hN.out] at HM
            refine bodyPost_ret (v := .tuple #[.agg #[.int .i64 (byt s 0), .int .i64 0, .int .i64 0, .slice ao' (ts.length + 1) cap'], .int .i64 (n + 2)]) (by simp [results, Try.results25, go_sem, s0, s1, s2, s3]) rfl ⟨(hpv2.out _ _ _ _).1, SmPost.mk' HM (by omega) (hpv2.out _ _ _ _).2⟩
      · have hT : Hid (smTm s n = ⟨mAnd (byt s n), true, byt s n % 8, 256 * byt s (n + 1) + byt s (n + 2)⟩) := by show _ = _; unfold smTm; simp [hw]
        have hN : Hid (smN s n = n + 3) := by show _ = _; unfold smN; simp [hw]
        cases hl : mLast (byt s n)
        · have HM : Hid (SmSt s (ts ++ [smTm s n]) (smN s n)) := hst.more h9 hl
          clear hst
          go_wp2_with (go_at_call 43; refine (at_any _ _ _ (by omega) hs).mono ?_; rintro e w' ⟨rfl, rfl⟩)
          go_region_with (go_at_call 43; refine (at_any _ _ _ (by omega) hs).mono ?_; rintro e w' ⟨rfl, rfl⟩)
          all_goals go_wp2_with (first
            | (go_at_call 43; refine (at_any _ _ _ (by omega) hs).mono ?_; rintro e w' ⟨rfl, rfl⟩)
            | (at_builtin; refine wpList_append_own _ rfl _ _ 33 rfl (w.heap.size + 2) 63 i0 _ 4 24 Try.underlying33 hi hz0 hz1 hz2 rfl (by decide) _ _ _ rfl ((hpv.own.alloc _).drew.alloc _) ⟨wr.heap.size + 1, 0, none⟩ 1 1 (tcell ⟨mAnd (byt s n), true, byt s n % 8, 256 * byt s (n + 1) + byt s (n + 2)⟩) rfl rfl (cell_four_new' _ _ _ _ _ _ _ (by simp)) (tcell_one _) (by unfold maxLen; omega) (by omega) (by simp; omega) ?_; intro v' w1 ho hg _; obtain ⟨ao', cap', rfl⟩ := ownsRow_shape ho; obtain ⟨m1, m2⟩ := hpv.mid (below_alloc _ _).drew hg; have hpv2 := hpv.app (below_alloc _ _).drew hg ho; obtain ⟨d0, d1, d2, d3, df, dz, s0, s1, s2, s3, sf⟩ := pv_cells m1 m2; have dz1 : w.heap.size + 1 < w1.heap.size := (by omega); have dz0 : w.heap.size < w1.heap.size := (by omega); clear m1 m2 ho hg))
          all_goals
            go_roundw
            case rel =>
              have h2 := HM.out
              rw [hT.out, hN.out] at h2
              exact ⟨_, _, _, by go_num, hpv2, h2⟩
            case measure => simp [intOf]; omega
        · have HM : Hid (smT s 9 1 = (ts ++ [smTm s n], smN s n)) := hst.last h9 hl
          clear hst
          go_wp2_with (go_at_call 43; refine (at_any _ _ _ (by omega) hs).mono ?_; rintro e w' ⟨rfl, rfl⟩)
          go_region_with (go_at_call 43; refine (at_any _ _ _ (by omega) hs).mono ?_; rintro e w' ⟨rfl, rfl⟩)
          all_goals go_wp2_with (first
            | (go_at_call 43; refine (at_any _ _ _ (by omega) hs).mono ?_; rintro e w' ⟨rfl, rfl⟩)
            | (at_builtin; refine wpList_append_own _ rfl _ _ 33 rfl (w.heap.size + 2) 63 i0 _ 4 24 Try.underlying33 hi hz0 hz1 hz2 rfl (by decide) _ _ _ rfl ((hpv.own.alloc _).drew.alloc _) ⟨wr.heap.size + 1, 0, none⟩ 1 1 (tcell ⟨mAnd (byt s n), true, byt s n % 8, 256 * byt s (n + 1) + byt s (n + 2)⟩) rfl rfl (cell_four_new' _ _ _ _ _ _ _ (by simp)) (tcell_one _) (by unfold maxLen; omega) (by omega) (by simp; omega) ?_; intro v' w1 ho hg _; obtain ⟨ao', cap', rfl⟩ := ownsRow_shape ho; obtain ⟨m1, m2⟩ := hpv.mid (below_alloc _ _).drew hg; have hpv2 := hpv.app (below_alloc _ _).drew hg ho; obtain ⟨d0, d1, d2, d3, df, dz, s0, s1, s2, s3, sf⟩ := pv_cells m1 m2; have dz1 : w.heap.size + 1 < w1.heap.size := (by omega); have dz0 : w.heap.size < w1.heap.size := (by omega); clear m1 m2 ho hg))
          all_goals
            rw [hT.out, hN.out] at HM
            refine bodyPost_ret (v := .tuple #[.agg #[.int .i64 (byt s 0), .int .i64 0, .int .i64 0, .slice ao' (ts.length + 1) cap'], .int .i64 (n + 2 + 1)]) (by simp [results, Try.results25, go_sem, s0, s1, s2, s3]) rfl ⟨(hpv2.out _ _ _ _).1, SmPost.mk' HM (by omega) (hpv2.out _ _ _ _).2⟩
    · have HF : Hid (smT s 9 1 = (ts, n)) := hst.full h9
      clear hst
      go_wp2
      refine bodyPost_ret (v := .tuple #[.agg #[.int .i64 (byt s 0), .int .i64 0, .int .i64 0, .slice ao ts.length cap], .int .i64 n]) (by simp [results, Try.results25, go_sem, r0, r1, r2, r3]) rfl ⟨(hpv.out _ _ _ _).1, SmPost.mk' HF rfl (hpv.out _ _ _ _).2⟩
end Go.Proofs.Ytkdcjcemeipkjaa
