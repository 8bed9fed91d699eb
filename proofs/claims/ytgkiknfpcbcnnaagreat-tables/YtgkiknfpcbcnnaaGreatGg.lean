import Derived.Test.YtgkiknfpcbcnnaaGreatGf
namespace Go.Proofs.YtgkiknfpcbcnnaaGreat
open Go.RowKit
set_option maxRecDepth 20000
theorem at_any (s : ByteArray) (a : Int) (w : World) (h0 : 0 ≤ a) (hs : s.size ≤ 140737488351232) :
    Calls Tryz.prog 97 #[.string s, .int .i64 a] w fun e w' => e = .returned (.int .i64 (byt s a)) ∧ w = w' := by
  by_cases h : a < s.size
  · have e1 : byt s a = (s[a.toNat]'(by omega)).toNat := by unfold byt; rw [dif_pos (by omega)]
    rw [e1]
    clear e1
    go_enter Tryz.func97, Tryz.ntmps97
    go_wp2
    go_ret
    refine ⟨?_, rfl⟩
    show Ending.returned (.int .i64 (wrap64 _)) = _
    rw [IntWalk.wrap64_in _ ⟨by omega, by have := (s[a.toNat]'(by omega)).toNat_lt; omega⟩]
  · have e1 : byt s a = 0 := by unfold byt; rw [dif_neg (by omega)]
    rw [e1]
    clear e1
    go_enter Tryz.func97, Tryz.ntmps97
    go_wp2
    go_ret
    exact ⟨rfl, rfl⟩
def smT (s : ByteArray) : Nat → Nat → List Tm × Nat
  | 0, n => ([], n)
  | f + 1, n =>
    let m := byt s n
    let t : Tm := ⟨mAnd m, mWide m, m % 8, if mWide m then 256 * byt s (n + 1) + byt s (n + 2) else byt s (n + 1)⟩
    let n' := if mWide m then n + 3 else n + 2
    if mLast m then ([t], n') else (t :: (smT s f n').1, (smT s f n').2)
def sm (s : ByteArray) : Pt × Nat :=
  let ty := byt s 0
  if ty ≤ 2 then
    let ln := byt s 1
    if 8 < ln then (⟨ty, 256 * byt s 2 + byt s 3, ln, []⟩, 4) else if 0 < ln then (⟨ty, 256 * byt s 2, ln, []⟩, 3) else (⟨ty, 0, ln, []⟩, 2)
  else (⟨ty, 0, 0, (smT s 9 1).1⟩, (smT s 9 1).2)
theorem seems_pref (s : ByteArray) (w : World) (hs : s.size ≤ 140737488351232) (h : byt s 0 ≤ 2) :
    Calls Tryz.prog 75 #[.string s] w fun e w' => e = .returned (.tuple #[.agg #[.int .i64 (sm s).1.ty, .int .i64 (sm s).1.bt, .int .i64 (sm s).1.ln, .slice none 0 0], .int .i64 (sm s).2]) ∧ Below w.heap.size w w' := by
  have b0 := byt_nonneg s
  have b1 := byt_le s
  have x1 := b0 1
  have x2 := b0 2
  have x3 := b0 3
  have y1 := b1 1
  have y2 := b1 2
  have y3 := b1 3
  clear b0 b1
  by_cases h8 : 8 < byt s 1
  · have e : sm s = (⟨byt s 0, 256 * byt s 2 + byt s 3, byt s 1, []⟩, 4) := by unfold sm; dsimp only; rw [if_pos h, if_pos h8]
    rw [e]
    clear e
    go_enter Tryz.func75, Tryz.ntmps75
    go_wp2_with (go_at_call 97; refine (at_any _ _ _ (by omega) hs).mono ?_; rintro e w' ⟨rfl, rfl⟩)
    go_region_with (go_at_call 97; refine (at_any _ _ _ (by omega) hs).mono ?_; rintro e w' ⟨rfl, rfl⟩)
    all_goals go_wp2
    all_goals refine bodyPost_ret (v := .tuple #[.agg #[.int .i64 (byt s 0), .int .i64 (256 * byt s 2 + byt s 3), .int .i64 (byt s 1), .slice none 0 0], .int .i64 4]) (by simp [results, Tryz.results75, go_sem]) rfl ⟨rfl, ?_⟩
    all_goals exact ((below_alloc _ _).alloc (by simp) _).drew
  · by_cases h0 : 0 < byt s 1
    · have e : sm s = (⟨byt s 0, 256 * byt s 2, byt s 1, []⟩, 3) := by unfold sm; dsimp only; rw [if_pos h, if_neg h8, if_pos h0]
      rw [e]
      clear e
      go_enter Tryz.func75, Tryz.ntmps75
      go_wp2_with (go_at_call 97; refine (at_any _ _ _ (by omega) hs).mono ?_; rintro e w' ⟨rfl, rfl⟩)
      refine bodyPost_ret (v := .tuple #[.agg #[.int .i64 (byt s 0), .int .i64 (256 * byt s 2), .int .i64 (byt s 1), .slice none 0 0], .int .i64 3]) (by simp [results, Tryz.results75, go_sem]) rfl ⟨rfl, ?_⟩
      exact (below_alloc _ _).alloc (by simp) _
    · have e : sm s = (⟨byt s 0, 0, byt s 1, []⟩, 2) := by unfold sm; dsimp only; rw [if_pos h, if_neg h8, if_neg h0]
      rw [e]
      clear e
      go_enter Tryz.func75, Tryz.ntmps75
      go_wp2_with (go_at_call 97; refine (at_any _ _ _ (by omega) hs).mono ?_; rintro e w' ⟨rfl, rfl⟩)
      refine bodyPost_ret (v := .tuple #[.agg #[.int .i64 (byt s 0), .int .i64 0, .int .i64 (byt s 1), .slice none 0 0], .int .i64 2]) (by simp [results, Tryz.results75, go_sem]) rfl ⟨rfl, ?_⟩
      exact (below_alloc _ _).alloc (by simp) _
end Go.Proofs.YtgkiknfpcbcnnaaGreat
namespace Go.Proofs.YtgkiknfpcbcnnaaGreat
open Go.RowKit
set_option maxRecDepth 20000
structure SmSt (s : ByteArray) (ts : List Tm) (n : Nat) : Prop where
  len : ts.length ≤ 9
  low : 1 ≤ n
  place : n ≤ 1 + 3 * ts.length
  rest : smT s 9 1 = (ts ++ (smT s (9 - ts.length) n).1, (smT s (9 - ts.length) n).2)
theorem SmSt.start (s : ByteArray) : SmSt s [] 1 := ⟨by simp, by omega, by simp, by simp⟩
def smTm (s : ByteArray) (n : Nat) : Tm := ⟨mAnd (byt s n), mWide (byt s n), byt s n % 8, if mWide (byt s n) then 256 * byt s (n + 1) + byt s (n + 2) else byt s (n + 1)⟩
def smN (s : ByteArray) (n : Nat) : Nat := if mWide (byt s n) then n + 3 else n + 2
theorem smT_last (s : ByteArray) (f n : Nat) (h : mLast (byt s n) = true) : smT s (f + 1) n = ([smTm s n], smN s n) := by
  unfold smT; dsimp only; rw [if_pos h]; rfl
theorem smT_more (s : ByteArray) (f n : Nat) (h : mLast (byt s n) = false) : smT s (f + 1) n = (smTm s n :: (smT s f (smN s n)).1, (smT s f (smN s n)).2) := by
  conv => lhs; unfold smT
  dsimp only; rw [if_neg (by simp [h])]; rfl
theorem SmSt.last {s : ByteArray} {ts : List Tm} {n : Nat} (h : SmSt s ts n) (h9 : ts.length < 9) (hl : mLast (byt s n) = true) : smT s 9 1 = (ts ++ [smTm s n], smN s n) := by
  rw [h.rest]
  obtain ⟨f, hf⟩ : ∃ f, 9 - ts.length = f + 1 := ⟨8 - ts.length, by omega⟩
  rw [hf, smT_last s f n hl]
theorem SmSt.more {s : ByteArray} {ts : List Tm} {n : Nat} (h : SmSt s ts n) (h9 : ts.length < 9) (hl : mLast (byt s n) = false) : SmSt s (ts ++ [smTm s n]) (smN s n) := by
  have hp := h.place
  have hlow := h.low
  have hN : smN s n ≤ n + 3 ∧ n ≤ smN s n := by unfold smN; split <;> omega
  refine ⟨by simp; omega, by omega, by simp; omega, ?_⟩
  rw [h.rest]
  obtain ⟨f, hf⟩ : ∃ f, 9 - ts.length = f + 1 := ⟨8 - ts.length, by omega⟩
  have hf' : 9 - (ts ++ [smTm s n]).length = f := by simp; omega
  rw [hf', hf, smT_more s f n hl]
  simp
theorem SmSt.full {s : ByteArray} {ts : List Tm} {n : Nat} (h : SmSt s ts n) (h9 : ¬ ts.length < 9) : smT s 9 1 = (ts, n) := by
  have := h.len
  have e : 9 - ts.length = 0 := by omega
  rw [h.rest, e]; simp [smT]
structure PV (w : World) (wr : World) (ty : Int) (v : Value) (ts : List Tm) : Prop where
  bel : Below (w.heap.size + 1) (w.alloc (.cells #[.int .i64 0, .int .i64 0, .int .i64 0, .slice none 0 0] 140)) wr
  box : wr.heap[w.heap.size + 1]? = some (.cells #[.int .i64 ty, .int .i64 0, .int .i64 0, v] 140 (0, 0))
  own : wr.ownsRow (w.heap.size + 2) 166 4 v ts.length (tcells ts)
theorem four_setCell3 {w : World} {M : Nat} {x y z u v : Value} {t : TypeId} (h : w.heap[M]? = some (.cells #[x, y, z, v] t (0, 0))) : (w.setCell ⟨M, 3, none⟩ u).heap[M]? = some (.cells #[x, y, z, u] t (0, 0)) := by
  simp [World.setCell, Array.getElem?_modify, h]
theorem pv_cells {w wr : World} {ty : Int} {v : Value} (bel : Below (w.heap.size + 1) (w.alloc (.cells #[.int .i64 0, .int .i64 0, .int .i64 0, .slice none 0 0] 140)) wr) (hx : wr.heap[w.heap.size + 1]? = some (.cells #[.int .i64 ty, .int .i64 0, .int .i64 0, v] 140 (0, 0))) :
    wr.cell? ⟨w.heap.size + 1, 0, none⟩ = some (.int .i64 ty) ∧ wr.cell? ⟨w.heap.size + 1, 1, none⟩ = some (.int .i64 0) ∧ wr.cell? ⟨w.heap.size + 1, 2, none⟩ = some (.int .i64 0) ∧ wr.cell? ⟨w.heap.size + 1, 3, none⟩ = some v ∧
    wr.frozen? ⟨w.heap.size + 1, 3, none⟩ = false ∧ w.heap.size + 2 ≤ wr.heap.size ∧
    wr.cell? ⟨w.heap.size, 0, none⟩ = some (.int .i64 0) ∧ wr.cell? ⟨w.heap.size, 1, none⟩ = some (.int .i64 0) ∧ wr.cell? ⟨w.heap.size, 2, none⟩ = some (.int .i64 0) ∧ wr.cell? ⟨w.heap.size, 3, none⟩ = some (.slice none 0 0) ∧
    ∀ o, wr.frozen? ⟨w.heap.size, o, none⟩ = false := by
  have hb : Below (w.alloc (.cells #[.int .i64 0, .int .i64 0, .int .i64 0, .slice none 0 0] 140)).heap.size (w.alloc (.cells #[.int .i64 0, .int .i64 0, .int .i64 0, .slice none 0 0] 140)) wr := bel.mono (by simp)
  obtain ⟨r0, r1, r2, r3, rf, _⟩ := cells_of_below hb
  exact ⟨by simp [World.cell?, hx], by simp [World.cell?, hx], by simp [World.cell?, hx], by simp [World.cell?, hx], by simp [World.frozen?, hx], lt_of_block hx, r0, r1, r2, r3, rf⟩
theorem PV.mid {w wr wt w1 : World} {ty : Int} {v : Value} {ts : List Tm} {o : Obj} (h : PV w wr ty v ts) (hb : Below wr.heap.size wr wt) (hg : (wt.alloc o).grownBy w1 v.ownBlock) :
    Below (w.heap.size + 1) (w.alloc (.cells #[.int .i64 0, .int .i64 0, .int .i64 0, .slice none 0 0] 140)) w1 ∧ w1.heap[w.heap.size + 1]? = some (.cells #[.int .i64 ty, .int .i64 0, .int .i64 0, v] 140 (0, 0)) := by
  have hz := lt_of_block h.box
  have hz2 := hb.size
  have hr : ∀ k, v.ownBlock = some k → w.heap.size + 2 ≤ k := fun k hk => (h.own.lt k hk).1
  refine ⟨((h.bel.trans (hb.mono (by omega))).alloc (by omega) o).grown hg (by simp; omega) (fun k hk => by have := hr k hk; omega), ?_⟩
  rw [hg.block _ (by simp; omega) (fun e => by have := hr _ e.symm; omega), Below.heap_alloc _ _ _ (by omega), hb.block _ (by omega)]
  exact h.box
theorem PV.app {w wr wt w1 : World} {ty : Int} {v v' : Value} {ts : List Tm} {t : Tm} {o : Obj} (h : PV w wr ty v ts) (hb : Below wr.heap.size wr wt) (hg : (wt.alloc o).grownBy w1 v.ownBlock) (ho : w1.ownsRow (w.heap.size + 2) 166 4 v' (ts.length + 1) (tcells ts ++ tcell t)) :
    PV w (w1.setCell ⟨w.heap.size + 1, 3, none⟩ v') ty v' (ts ++ [t]) := by
  obtain ⟨m1, m2⟩ := h.mid hb hg
  exact ⟨m1.setCell (by simp) _, four_setCell3 m2, ownsRow_setCell_below (ownsTerms_snoc ho) (by simp) _⟩
theorem PV.out {w wr : World} {ty : Int} {v : Value} {ts : List Tm} (h : PV w wr ty v ts) (a b c d : Value) :
    Below w.heap.size w ((((wr.setCell ⟨w.heap.size, 0, none⟩ a).setCell ⟨w.heap.size, 1, none⟩ b).setCell ⟨w.heap.size, 2, none⟩ c).setCell ⟨w.heap.size, 3, none⟩ d) ∧
    ((((wr.setCell ⟨w.heap.size, 0, none⟩ a).setCell ⟨w.heap.size, 1, none⟩ b).setCell ⟨w.heap.size, 2, none⟩ c).setCell ⟨w.heap.size, 3, none⟩ d).ownsRow w.heap.size 166 4 v ts.length (tcells ts) :=
  ⟨below_set4 (below_first' h.bel) _ _ _ _, ownsRow_base (owns_set4 h.own (by omega) _ _ _ _) (by omega)⟩
def SmPost (s : ByteArray) (B : Nat) (e : Ending) (w' : World) : Prop :=
  ∃ v, e = .returned (.tuple #[.agg #[.int .i64 (byt s 0), .int .i64 0, .int .i64 0, v], .int .i64 (smT s 9 1).2]) ∧ w'.ownsRow B 166 4 v (smT s 9 1).1.length (tcells (smT s 9 1).1)
theorem SmPost.mk' {s : ByteArray} {B : Nat} {w' : World} {v : Value} {ts : List Tm} {n : Nat} {n' : Int} (h : Hid (smT s 9 1 = (ts, n))) (hn : n' = n) (ho : w'.ownsRow B 166 4 v ts.length (tcells ts)) :
    SmPost s B (.returned (.tuple #[.agg #[.int .i64 (byt s 0), .int .i64 0, .int .i64 0, v], .int .i64 n'])) w' := by
  unfold SmPost; rw [h.out, hn]; exact ⟨v, rfl, ho⟩
set_option maxHeartbeats 3200000 in
theorem seems_terms (s : ByteArray) (w : World) (hs : s.size ≤ 140737488351232) (h : ¬ byt s 0 ≤ 2) :
    Calls Tryz.prog 75 #[.string s] w fun e w' => Below w.heap.size w w' ∧ SmPost s w.heap.size e w' := by
  obtain ⟨i0, hi, hz0, hz1, hz2⟩ := info_parts infoTerm
  go_enter Tryz.func75, Tryz.ntmps75
  go_wp2_with (go_at_call 97; refine (at_any _ _ _ (by omega) hs).mono ?_; rintro e w' ⟨rfl, rfl⟩)
  go_loopw [6] (fun i wr => ∃ (n : Nat) (v : Value) (ts : List Tm), i = .int .i64 n ∧ PV w wr (byt s 0) v ts ∧ SmSt s ts n) (fun i _ => 40 - (intOf i).toNat)
  case atStart => exact ⟨1, .slice none 0 0, [], rfl, ⟨(Below.refl _ _).alloc (by simp) _, by have := heap_alloc_new (w.alloc (.cells #[.int .i64 0, .int .i64 0, .int .i64 0, .slice none 0 0] 140)) (.cells #[.int .i64 (byt s 0), .int .i64 0, .int .i64 0, .slice none 0 0] 140); simpa using this, World.ownsRow_nil _ _ _ _⟩, SmSt.start s⟩
  case round =>
    obtain ⟨n, v, ts, rfl, hpv, hst⟩ := hrel
    obtain ⟨ao, cap, rfl⟩ := ownsRow_shape hpv.own
    obtain ⟨a0, a1, a2, a3, af, az, r0, r1, r2, r3, rf⟩ := pv_cells hpv.bel hpv.box
    have az1 : w.heap.size + 1 < wr.heap.size := by omega
    have az0 : w.heap.size < wr.heap.size := by omega
    have hlen := hst.len
    have hpl := hst.place
    have hlow := hst.low
    have b0 := byt_nonneg s n
    have b1 := byt_le s n
    by_cases h9 : ts.length < 9
    · have x1 := byt_nonneg s (n + 1)
      have y1 := byt_le s (n + 1)
      have x2 := byt_nonneg s (n + 2)
      have y2 := byt_le s (n + 2)
      have eA : (byt s n / 64 % 2 == 1) = mAnd (byt s n) := by unfold mAnd; by_cases hh : byt s n / 64 % 2 = 1 <;> simp [hh]
      have eW : (byt s n / 16 % 2 == 1) = mWide (byt s n) := by unfold mWide; by_cases hh : byt s n / 16 % 2 = 1 <;> simp [hh]
      have eL : decide (128 ≤ byt s n) = mLast (byt s n) := rfl
      cases hw : mWide (byt s n)
      · have hT : Hid (smTm s n = ⟨mAnd (byt s n), false, byt s n % 8, byt s (n + 1)⟩) := by show _ = _; unfold smTm; simp [hw]
        have hN : Hid (smN s n = n + 2) := by show _ = _; unfold smN; simp [hw]
        cases hl : mLast (byt s n)
        · have HM : Hid (SmSt s (ts ++ [smTm s n]) (smN s n)) := hst.more h9 hl
          clear hst
          go_wp2_with (first
            | (go_at_call 97; refine (at_any _ _ _ (by omega) hs).mono ?_; rintro e w' ⟨rfl, rfl⟩)
            | (at_builtin; refine wpList_append_own _ rfl _ _ 138 rfl (w.heap.size + 2) 166 i0 _ 4 24 Tryz.underlying138 hi hz0 hz1 hz2 rfl (by decide) _ _ _ rfl ((hpv.own.alloc _).alloc _) ⟨wr.heap.size + 1, 0, none⟩ 1 1 (tcell ⟨mAnd (byt s n), false, byt s n % 8, byt s (n + 1)⟩) rfl rfl (cell_four_new' _ _ _ _ _ _ _ (by simp)) (tcell_one _) (by unfold maxLen; omega) (by omega) (by simp; omega) ?_; intro v' w1 ho hg _; obtain ⟨ao', cap', rfl⟩ := ownsRow_shape ho; obtain ⟨m1, m2⟩ := hpv.mid (below_alloc _ _) hg; have hpv2 := hpv.app (below_alloc _ _) hg ho; obtain ⟨d0, d1, d2, d3, df, dz, s0, s1, s2, s3, sf⟩ := pv_cells m1 m2; have dz1 : w.heap.size + 1 < w1.heap.size := (by omega); have dz0 : w.heap.size < w1.heap.size := (by omega); clear m1 m2 ho hg))
          all_goals
            go_roundw
            case rel =>
              have h2 := HM.out
              rw [hT.out, hN.out] at h2
              exact ⟨_, _, _, by go_num, hpv2, h2⟩
            case measure => simp [intOf]; omega
        · have HM : Hid (smT s 9 1 = (ts ++ [smTm s n], smN s n)) := hst.last h9 hl
          clear hst
          go_wp2_with (first
            | (go_at_call 97; refine (at_any _ _ _ (by omega) hs).mono ?_; rintro e w' ⟨rfl, rfl⟩)
            | (at_builtin; refine wpList_append_own _ rfl _ _ 138 rfl (w.heap.size + 2) 166 i0 _ 4 24 Tryz.underlying138 hi hz0 hz1 hz2 rfl (by decide) _ _ _ rfl ((hpv.own.alloc _).alloc _) ⟨wr.heap.size + 1, 0, none⟩ 1 1 (tcell ⟨mAnd (byt s n), false, byt s n % 8, byt s (n + 1)⟩) rfl rfl (cell_four_new' _ _ _ _ _ _ _ (by simp)) (tcell_one _) (by unfold maxLen; omega) (by omega) (by simp; omega) ?_; intro v' w1 ho hg _; obtain ⟨ao', cap', rfl⟩ := ownsRow_shape ho; obtain ⟨m1, m2⟩ := hpv.mid (below_alloc _ _) hg; have hpv2 := hpv.app (below_alloc _ _) hg ho; obtain ⟨d0, d1, d2, d3, df, dz, s0, s1, s2, s3, sf⟩ := pv_cells m1 m2; have dz1 : w.heap.size + 1 < w1.heap.size := (by omega); have dz0 : w.heap.size < w1.heap.size := (by omega); clear m1 m2 ho hg))
          all_goals
            rw [hT.out, hN.out] at HM
            refine bodyPost_ret (v := .tuple #[.agg #[.int .i64 (byt s 0), .int .i64 0, .int .i64 0, .slice ao' (ts.length + 1) cap'], .int .i64 (n + 2)]) (by simp [results, Tryz.results75, go_sem, s0, s1, s2, s3]) rfl ⟨(hpv2.out _ _ _ _).1, SmPost.mk' HM (by omega) (hpv2.out _ _ _ _).2⟩
      · have hT : Hid (smTm s n = ⟨mAnd (byt s n), true, byt s n % 8, 256 * byt s (n + 1) + byt s (n + 2)⟩) := by show _ = _; unfold smTm; simp [hw]
        have hN : Hid (smN s n = n + 3) := by show _ = _; unfold smN; simp [hw]
        cases hl : mLast (byt s n)
        · have HM : Hid (SmSt s (ts ++ [smTm s n]) (smN s n)) := hst.more h9 hl
          clear hst
          go_wp2_with (go_at_call 97; refine (at_any _ _ _ (by omega) hs).mono ?_; rintro e w' ⟨rfl, rfl⟩)
          go_region_with (go_at_call 97; refine (at_any _ _ _ (by omega) hs).mono ?_; rintro e w' ⟨rfl, rfl⟩)
          all_goals go_wp2_with (first
            | (go_at_call 97; refine (at_any _ _ _ (by omega) hs).mono ?_; rintro e w' ⟨rfl, rfl⟩)
            | (at_builtin; refine wpList_append_own _ rfl _ _ 138 rfl (w.heap.size + 2) 166 i0 _ 4 24 Tryz.underlying138 hi hz0 hz1 hz2 rfl (by decide) _ _ _ rfl ((hpv.own.alloc _).drew.alloc _) ⟨wr.heap.size + 1, 0, none⟩ 1 1 (tcell ⟨mAnd (byt s n), true, byt s n % 8, 256 * byt s (n + 1) + byt s (n + 2)⟩) rfl rfl (cell_four_new' _ _ _ _ _ _ _ (by simp)) (tcell_one _) (by unfold maxLen; omega) (by omega) (by simp; omega) ?_; intro v' w1 ho hg _; obtain ⟨ao', cap', rfl⟩ := ownsRow_shape ho; obtain ⟨m1, m2⟩ := hpv.mid (below_alloc _ _).drew hg; have hpv2 := hpv.app (below_alloc _ _).drew hg ho; obtain ⟨d0, d1, d2, d3, df, dz, s0, s1, s2, s3, sf⟩ := pv_cells m1 m2; have dz1 : w.heap.size + 1 < w1.heap.size := (by omega); have dz0 : w.heap.size < w1.heap.size := (by omega); clear m1 m2 ho hg))
          all_goals
            go_roundw
            case rel =>
              have h2 := HM.out
              rw [hT.out, hN.out] at h2
              exact ⟨_, _, _, by go_num, hpv2, h2⟩
            case measure => simp [intOf]; omega
        · have HM : Hid (smT s 9 1 = (ts ++ [smTm s n], smN s n)) := hst.last h9 hl
          clear hst
          go_wp2_with (go_at_call 97; refine (at_any _ _ _ (by omega) hs).mono ?_; rintro e w' ⟨rfl, rfl⟩)
          go_region_with (go_at_call 97; refine (at_any _ _ _ (by omega) hs).mono ?_; rintro e w' ⟨rfl, rfl⟩)
          all_goals go_wp2_with (first
            | (go_at_call 97; refine (at_any _ _ _ (by omega) hs).mono ?_; rintro e w' ⟨rfl, rfl⟩)
            | (at_builtin; refine wpList_append_own _ rfl _ _ 138 rfl (w.heap.size + 2) 166 i0 _ 4 24 Tryz.underlying138 hi hz0 hz1 hz2 rfl (by decide) _ _ _ rfl ((hpv.own.alloc _).drew.alloc _) ⟨wr.heap.size + 1, 0, none⟩ 1 1 (tcell ⟨mAnd (byt s n), true, byt s n % 8, 256 * byt s (n + 1) + byt s (n + 2)⟩) rfl rfl (cell_four_new' _ _ _ _ _ _ _ (by simp)) (tcell_one _) (by unfold maxLen; omega) (by omega) (by simp; omega) ?_; intro v' w1 ho hg _; obtain ⟨ao', cap', rfl⟩ := ownsRow_shape ho; obtain ⟨m1, m2⟩ := hpv.mid (below_alloc _ _).drew hg; have hpv2 := hpv.app (below_alloc _ _).drew hg ho; obtain ⟨d0, d1, d2, d3, df, dz, s0, s1, s2, s3, sf⟩ := pv_cells m1 m2; have dz1 : w.heap.size + 1 < w1.heap.size := (by omega); have dz0 : w.heap.size < w1.heap.size := (by omega); clear m1 m2 ho hg))
          all_goals
            rw [hT.out, hN.out] at HM
            refine bodyPost_ret (v := .tuple #[.agg #[.int .i64 (byt s 0), .int .i64 0, .int .i64 0, .slice ao' (ts.length + 1) cap'], .int .i64 (n + 2 + 1)]) (by simp [results, Tryz.results75, go_sem, s0, s1, s2, s3]) rfl ⟨(hpv2.out _ _ _ _).1, SmPost.mk' HM (by omega) (hpv2.out _ _ _ _).2⟩
    · have HF : Hid (smT s 9 1 = (ts, n)) := hst.full h9
      clear hst
      go_wp2
      refine bodyPost_ret (v := .tuple #[.agg #[.int .i64 (byt s 0), .int .i64 0, .int .i64 0, .slice ao ts.length cap], .int .i64 n]) (by simp [results, Tryz.results75, go_sem, r0, r1, r2, r3]) rfl ⟨(hpv.out _ _ _ _).1, SmPost.mk' HF rfl (hpv.out _ _ _ _).2⟩
end Go.Proofs.YtgkiknfpcbcnnaaGreat
namespace Go.Proofs.YtgkiknfpcbcnnaaGreat
open Go.RowKit
set_option maxRecDepth 20000
theorem mk_mod8 (t : Tm) (last : Bool) (k : Int) (h : isT k t = true) : mk t last % 8 = t.op := by
  obtain ⟨h0, h1, _, _⟩ := isT_bd k t h
  obtain ⟨an, wd, op, vl⟩ := t
  dsimp only at h0 h1
  simp only [mk]
  cases an <;> cases wd <;> cases last <;> simp only [b2, if_true, Bool.false_eq_true, if_false] <;> omega
theorem num_one (s : ByteArray) (a : Int) : num s a 1 = byt s a := by
  show num s a 0 * 256 + byt s (a + (0 : Nat)) = _; simp [num]
theorem num_two (s : ByteArray) (a : Int) : num s a 2 = byt s a * 256 + byt s (a + 1) := by
  show (num s a 0 * 256 + byt s (a + (0 : Nat))) * 256 + byt s (a + (1 : Nat)) = _; simp [num]
theorem smT_valid (s : ByteArray) (k : Int) : ∀ (ts : List Tm) (f : Nat) (b : Bool) (n : Nat), allT k b ts = true → 1 ≤ ts.length → ts.length ≤ f → At s n (wTerms ts) → smT s f n = (ts, n + (wTerms ts).size) := by
  intro ts
  induction ts with
  | nil => intro f b n _ h; simp at h
  | cons t r ih =>
    intro f b n hall _ hn hat
    obtain ⟨f, rfl⟩ : ∃ m, f = m + 1 := ⟨f - 1, by simp at hn; omega⟩
    simp only [allT, Bool.and_eq_true, Bool.not_eq_true'] at hall
    obtain ⟨⟨hf, ht⟩, hr⟩ := hall
    simp only [wTerms, At_app] at hat
    obtain ⟨h1, h2, h3, h4, h5⟩ := wTerm_At s n k t _ ht hat.1
    obtain ⟨m0, m1, m2, m3, m4, m5, m6⟩ := mk_facts t r.isEmpty k ht
    have m8 := mk_mod8 t r.isEmpty k ht
    rw [← h2] at m2 m3 m4 m8
    have hT : smTm s n = t := by
      obtain ⟨an, wd, op, vl⟩ := t
      dsimp only at *
      unfold smTm
      rw [m3, m4, m8]
      cases wd
      · have : num s ((n : Int) + 1) 1 = vl := h4
        rw [num_one] at this
        simp [this]
      · have : num s ((n : Int) + 1) 2 = vl := h4
        rw [num_two] at this
        have e : (n : Int) + 1 + 1 = n + 2 := by omega
        rw [e] at this
        simp only [if_true]
        congr 1
        omega
    have hN : smN s n = n + (1 + (vB t.wd).toNat) := by
      unfold smN; rw [m4]; cases t.wd <;> simp [vB]
    cases r with
    | nil =>
      rw [smT_last s f n (by rw [m2]; rfl), hT, hN]
      have e : (wTerms [t]).size = 1 + (vB t.wd).toNat := by simp only [wTerms, ByteArray.size_append]; rw [h5]; rfl
      rw [e]
    | cons t2 r2 =>
      rw [smT_more s f n (by rw [m2]; rfl), hT, hN]
      have e : n + (1 + (vB t.wd).toNat) = n + (wTerm t (t2 :: r2).isEmpty).size := by rw [h5]
      rw [e, ih f false _ hr (by simp) (by simpa using hn) hat.2]
      simp [wTerms, ByteArray.size_append]; omega
theorem sm_valid (s : ByteArray) (p : Pt) (h : isP p = true) (hat : At s 0 (wPart p)) : sm s = (p, (wPart p).size) := by
  have hty := isP_ty h
  obtain ⟨ty, bt, ln, ts⟩ := p
  dsimp only at hty
  unfold wPart at hat ⊢
  dsimp only at hat ⊢
  cases hk : hasP ty
  · obtain ⟨h1, h2, h3, h4, h5, h6⟩ := isP_terms h hk
    have hb := hasT_bd h1
    dsimp only at h1 h2 h3 h4 h5 h6 hb
    subst h2 h3
    simp only [hk, Bool.false_eq_true, if_false, At_app, ch_size] at hat ⊢
    rw [At_ch s 0 ty (by omega) (by omega)] at hat
    obtain ⟨⟨q1, q2⟩, q3⟩ := hat
    have q2' : byt s 0 = ty := q2
    have := smT_valid s ty ts 9 true 1 h6 h4 (by omega) q3
    unfold sm
    dsimp only
    rw [q2', if_neg (by omega), this, ByteArray.size_append, ch_size]
  · obtain ⟨h1, h2⟩ := isP_pref h hk
    have hb := hasP_bd hk
    dsimp only at h1 h2 hb
    subst h1
    simp only [hk, if_true, At_app, ch_size] at hat ⊢
    rw [At_ch s 0 ty (by omega) (by omega)] at hat
    obtain ⟨⟨q1, q2⟩, q3⟩ := hat
    have q2' : byt s 0 = ty := q2
    obtain ⟨l0, l1, b0, b1, _⟩ := prefOK_bd h2
    obtain ⟨z1, z2⟩ := prefOK_low h2
    have pb := pB_bd ln
    have hsz : (wPref bt ln).size = 1 + (pB ln).toNat := by
      unfold wPref
      have := wNum_size (if pB ln = 1 then bt / 256 else bt) (pB ln) (by omega) (by omega)
      rw [ByteArray.size_append, ch_size]; omega
    rw [ByteArray.size_append, ch_size, hsz]
    unfold wPref at q3
    rw [At_app, At_ch s 1 ln l0 (by omega), ch_size] at q3
    obtain ⟨⟨r1, r2⟩, r3⟩ := q3
    have r2' : byt s 1 = ln := r2
    rw [At_num s 2 _ _ pb.1 pb.2 (by split <;> omega) (by split <;> omega) (fun e => by rw [if_pos e]; omega) (fun e => by rw [if_neg (by omega)]; exact z2 e) (by omega)] at r3
    obtain ⟨r4, r5⟩ := r3
    unfold sm
    dsimp only
    rw [q2', if_pos (by omega), r2']
    by_cases c8 : 8 < ln
    · have hp : pB ln = 2 := by unfold pB; rw [if_pos c8]
      rw [hp] at r5
      have r6 : num s 2 2 = bt := by simpa using r5
      rw [num_two] at r6
      rw [if_pos c8, hp]
      have e3 : byt s (2 + 1) = byt s 3 := rfl
      rw [e3] at r6
      have e : 256 * byt s 2 + byt s 3 = bt := by omega
      rw [e]; rfl
    · by_cases c0 : 0 < ln
      · have hp : pB ln = 1 := by unfold pB; rw [if_neg c8, if_pos c0]
        rw [hp] at r5
        have r6 : num s 2 1 = bt / 256 := by simpa using r5
        rw [num_one] at r6
        have := z1 hp
        rw [if_neg c8, if_pos c0, hp, r6]
        have e : 256 * (bt / 256) = bt := by omega
        rw [e]; rfl
      · have hp : pB ln = 0 := by unfold pB; rw [if_neg c8, if_neg c0]
        have := z2 hp
        subst this
        rw [if_neg c8, if_neg c0, hp]; rfl
theorem bl_from (s : ByteArray) (q : Nat) : bl (s.extract q s.size) = (bl s).drop q := by
  unfold bl
  rw [ByteArray.data_extract]
  simp
  try rw [List.take_of_length_le (by simp)]
def smR (s : ByteArray) : Nat → Nat → List Pt
  | 0, _ => []
  | f + 1, q => if q < s.size then (sm (s.extract q s.size)).1 :: smR s f (q + (sm (s.extract q s.size)).2) else []
theorem smR_valid (s : ByteArray) : ∀ (ps : List Pt) (f : Nat) (b : Int) (q : Nat), allP b ps = true → ps.length < f → At s q (wParts ps) → q + (wParts ps).size = s.size → smR s f q = ps := by
  intro ps
  induction ps with
  | nil =>
    intro f b q _ hf _ hs
    obtain ⟨f, rfl⟩ : ∃ m, f = m + 1 := ⟨f - 1, by simp at hf; omega⟩
    have : (wParts []).size = 0 := rfl
    unfold smR; rw [if_neg (by omega)]
  | cons p r ih =>
    intro f b q hall hf hat hs
    obtain ⟨f, rfl⟩ : ∃ m, f = m + 1 := ⟨f - 1, by simp at hf; omega⟩
    simp only [allP, Bool.and_eq_true] at hall
    simp only [wParts, At_app] at hat
    have hpos := wPart_pos p
    simp only [wParts, ByteArray.size_append] at hs
    have hsm := sm_valid (s.extract q s.size) p hall.1.2 (by unfold At; rw [bl_from]; simp only [List.drop_zero]; exact hat.1)
    unfold smR
    rw [if_pos (by omega), hsm]
    dsimp only
    rw [ih f p.ty _ hall.2 (by simpa using hf) hat.2 (by omega)]
theorem ref_yes (s : ByteArray) (h : isR (smR s 6 0) = true) (hw : wParts (smR s 6 0) = s) : decS s = some (smR s 6 0) := by
  have := decS_complete _ h
  rw [hw] at this
  exact this
theorem ref_no (s : ByteArray) (h : isR (smR s 6 0) = false ∨ wParts (smR s 6 0) ≠ s) : decS s = none := by
  apply decS_none
  intro ps hR hw
  have hall : allP 0 ps = true := by unfold isR at hR; simp only [Bool.and_eq_true] at hR; exact hR.1
  have hl := isR_small hR
  have e : smR s 6 0 = ps := smR_valid s ps 6 0 0 hall (by omega) (by rw [hw]; exact At_self s) (by rw [hw]; omega)
  rw [e] at h
  rcases h with h | h
  · rw [hR] at h; cases h
  · exact h hw
end Go.Proofs.YtgkiknfpcbcnnaaGreat
namespace Go.Proofs.YtgkiknfpcbcnnaaGreat
open Go.RowKit
set_option maxRecDepth 20000
theorem smT_len (s : ByteArray) : ∀ (f n : Nat), (smT s f n).1.length ≤ f ∧ n ≤ (smT s f n).2 ∧ (smT s f n).2 ≤ n + 3 * f := by
  intro f
  induction f with
  | zero => intro n; simp [smT]
  | succ f ih =>
    intro n
    have hN : n + 2 ≤ smN s n ∧ smN s n ≤ n + 3 := by unfold smN; split <;> omega
    cases hl : mLast (byt s n)
    · rw [smT_more s f n hl]
      have := ih (smN s n)
      simp only [List.length_cons]
      omega
    · rw [smT_last s f n hl]
      simp only [List.length_cons, List.length_nil]
      omega
theorem sm_bd (s : ByteArray) : (sm s).1.ts.length ≤ 9 ∧ 1 ≤ (sm s).2 ∧ (sm s).2 ≤ 28 := by
  unfold sm
  dsimp only
  split
  · split
    · simp
    · split <;> simp
  · have := smT_len s 9 1
    dsimp only
    omega
theorem seems_any (s : ByteArray) (w : World) (hs : s.size ≤ 140737488351232) :
    Calls Tryz.prog 75 #[.string s] w fun e w' => (∃ v, e = .returned (.tuple #[.agg #[.int .i64 (sm s).1.ty, .int .i64 (sm s).1.bt, .int .i64 (sm s).1.ln, v], .int .i64 (sm s).2]) ∧ w'.ownsRow w.heap.size 166 4 v (sm s).1.ts.length (tcells (sm s).1.ts)) ∧ Below w.heap.size w w' := by
  by_cases h : byt s 0 ≤ 2
  · refine (seems_pref s w hs h).mono fun e w' ⟨he, hb⟩ => ⟨⟨_, he, ?_⟩, hb⟩
    have e : (sm s).1.ts = [] := by
      unfold sm; dsimp only; rw [if_pos h]; split
      · rfl
      · split <;> rfl
    rw [e]
    exact World.ownsRow_nil _ _ _ _
  · refine (seems_terms s w hs h).mono fun e w' ⟨hb, v, he, ho⟩ => ⟨⟨v, ?_, ?_⟩, hb⟩
    · rw [he]; unfold sm; dsimp only; rw [if_neg h]
    · have e : (sm s).1.ts = (smT s 9 1).1 := by unfold sm; dsimp only; rw [if_neg h]
      rw [e]; exact ho
structure DSt (s : ByteArray) (qs : List (Pt × Value)) (q : Nat) : Prop where
  len : qs.length ≤ 6
  place : q ≤ 28 * qs.length
  small : ∀ x ∈ qs, x.1.ts.length ≤ 9
  rest : smR s 6 0 = qs.map Prod.fst ++ smR s (6 - qs.length) q
theorem DSt.start (s : ByteArray) : DSt s [] 0 := ⟨by simp, by simp, by simp, by simp⟩
theorem DSt.step {s : ByteArray} {qs : List (Pt × Value)} {q : Nat} (h : DSt s qs q) (h6 : qs.length < 6) (hq : q < s.size) (v : Value) : DSt s (qs ++ [((sm (s.extract q s.size)).1, v)]) (q + (sm (s.extract q s.size)).2) := by
  obtain ⟨b1, b2, b3⟩ := sm_bd (s.extract q s.size)
  have := h.place
  refine ⟨by simp; omega, by simp; omega, ?_, ?_⟩
  · intro x hx
    rw [List.mem_append, List.mem_singleton] at hx
    rcases hx with hx | rfl
    · exact h.small x hx
    · exact b1
  · rw [h.rest]
    obtain ⟨f, hf⟩ : ∃ f, 6 - qs.length = f + 1 := ⟨5 - qs.length, by omega⟩
    have hf' : 6 - (qs ++ [((sm (s.extract q s.size)).1, v)]).length = f := by simp; omega
    rw [hf', hf]
    conv => lhs; unfold smR
    rw [if_pos hq]
    simp
theorem DSt.done {s : ByteArray} {qs : List (Pt × Value)} {q : Nat} (h : DSt s qs q) (he : ¬ (q < s.size ∧ qs.length < 6)) : smR s 6 0 = qs.map Prod.fst := by
  have := h.len
  rw [h.rest]
  by_cases h6 : qs.length < 6
  · obtain ⟨f, hf⟩ : ∃ f, 6 - qs.length = f + 1 := ⟨5 - qs.length, by omega⟩
    rw [hf]; unfold smR; rw [if_neg (fun hh => he ⟨hh, h6⟩)]; simp
  · have e : 6 - qs.length = 0 := by omega
    rw [e]; simp [smR]
structure RV (w wr : World) (v : Value) (qs : List (Pt × Value)) : Prop where
  bel : Below (w.heap.size + 1) (w.alloc (.cells #[.slice none 0 0] 114)) wr
  box : wr.heap[w.heap.size + 1]? = some (.cells #[v] 114 (0, 0))
  rule : RuleAt wr (w.heap.size + 2) v qs
theorem rv_cells {w wr : World} {v : Value} (bel : Below (w.heap.size + 1) (w.alloc (.cells #[.slice none 0 0] 114)) wr) (hx : wr.heap[w.heap.size + 1]? = some (.cells #[v] 114 (0, 0))) :
    wr.cell? ⟨w.heap.size + 1, 0, none⟩ = some v ∧ wr.frozen? ⟨w.heap.size + 1, 0, none⟩ = false ∧ w.heap.size + 1 < wr.heap.size ∧ w.heap.size < wr.heap.size ∧ wr.cell? ⟨w.heap.size, 0, none⟩ = some (.slice none 0 0) ∧ wr.frozen? ⟨w.heap.size, 0, none⟩ = false := by
  have hl := lt_of_block hx
  exact ⟨cell_of_one hx, free_of_one hx, hl, by omega, (bel.cell (by simp)).trans (by simp [go_sem]), (bel.frozen (by simp)).trans (by simp [go_sem])⟩
theorem RV.mid {w wr wt w1 : World} {v : Value} {qs : List (Pt × Value)} {o o' : Obj} (h : RV w wr v qs) (hb : Below wr.heap.size wr wt) (hg : ((wt.alloc o).alloc o').grownBy w1 v.ownBlock) :
    Below (w.heap.size + 1) (w.alloc (.cells #[.slice none 0 0] 114)) w1 ∧ w1.heap[w.heap.size + 1]? = some (.cells #[v] 114 (0, 0)) := by
  have hz := lt_of_block h.box
  have hz2 := hb.size
  have hr : ∀ k, v.ownBlock = some k → w.heap.size + 2 ≤ k := fun k hk => (h.rule.parts.lt k hk).1
  refine ⟨(((h.bel.trans (hb.mono (by omega))).alloc (by omega) o).alloc (by simp; omega) o').grown hg (by simp; omega) (fun k hk => by have := hr k hk; omega), ?_⟩
  rw [hg.block _ (by simp; omega) (fun e => by have := hr _ e.symm; omega), Below.heap_alloc _ _ _ (by simp; omega), Below.heap_alloc _ _ _ (by omega), hb.block _ (by omega)]
  exact h.box
theorem RV.app {w wr wt w1 : World} {v v' tv : Value} {qs : List (Pt × Value)} {p : Pt} {o o' : Obj} (h : RV w wr v qs) (hb : Below wr.heap.size wr wt) (ht : wt.ownsRow wr.heap.size 166 4 tv p.ts.length (tcells p.ts)) (hg : ((wt.alloc o).alloc o').grownBy w1 v.ownBlock)
    (ho : w1.ownsRow (w.heap.size + 2) 140 4 v' (qs.length + 1) (pcells qs ++ pcell (p, tv))) : RV w (w1.setCell ⟨w.heap.size + 1, 0, none⟩ v') v' (qs ++ [(p, tv)]) := by
  obtain ⟨m1, m2⟩ := h.mid hb hg
  have hz := lt_of_block h.box
  exact ⟨m1.setCell (by simp) _, one_setCell m2, (h.rule.snoc2 (by omega) hb ht hg ho).setLow (by simp) _⟩
set_option maxHeartbeats 3200000 in
theorem refDecode_any (s : ByteArray) (w : World) (hs : s.size ≤ 140737488351232) :
    Calls Tryz.prog 53 #[.string s] w fun e w' => Below w.heap.size w w' ∧ DecPost s w.heap.size e w' := by
  obtain ⟨i0, hi, hz0, hz1, hz2⟩ := info_parts infoPart
  go_enter Tryz.func53, Tryz.ntmps53
  go_wp2
  go_loopw [5] (fun i wr => ∃ (q : Nat) (v : Value) (qs : List (Pt × Value)), i = .int .i64 q ∧ RV w wr v qs ∧ DSt s qs q) (fun i _ => s.size - (intOf i).toNat)
  case atStart => exact ⟨0, .slice none 0 0, [], rfl, ⟨(Below.refl _ _).alloc (by simp) _, by have := heap_alloc_new (w.alloc (.cells #[.slice none 0 0] 114)) (.cells #[.slice none 0 0] 114); simpa using this, RuleAt.nil _ _⟩, DSt.start s⟩
  case round =>
    obtain ⟨q, v, qs, rfl, hrv, hst⟩ := hrel
    obtain ⟨ao, cap, rfl⟩ := ownsRow_shape hrv.rule.parts
    obtain ⟨a0, af, az, az0, r0, rf⟩ := rv_cells hrv.bel hrv.box
    have hlen := hst.len
    have hpl := hst.place
    by_cases hc : q < s.size ∧ qs.length < 6
    · obtain ⟨h1, h6⟩ := hc
      have d1 : decide (q < s.size) = true := by simpa using h1
      obtain ⟨b1, b2, b3⟩ := sm_bd (s.extract q s.size)
      have HS : Hid (∀ tv, DSt s (qs ++ [((sm (s.extract q s.size)).1, tv)]) (q + (sm (s.extract q s.size)).2)) := fun tv => hst.step h6 h1 tv
      clear hst
      have hse : (s.extract q s.size).size ≤ 140737488351232 := by rw [ByteArray.size_extract]; omega
      go_wp2_with fail
      refine (seems_any _ _ hse).mono ?_
      rintro e w1 ⟨⟨tv, rfl, ht⟩, hb1⟩
      obtain ⟨ta, tc, rfl⟩ := ownsRow_shape ht
      have c1 : w1.cell? ⟨w.heap.size + 1, 0, none⟩ = some (.slice ao qs.length cap) := (hb1.cell (by simpa using az)).trans a0
      have f1 : w1.frozen? ⟨w.heap.size + 1, 0, none⟩ = false := (hb1.frozen (by simpa using az)).trans af
      have z1 : w.heap.size + 1 < w1.heap.size := by have := hb1.size; omega
      generalize (sm (s.extract q s.size)).1 = p at *
      generalize (sm (s.extract q s.size)).2 = m at *
      clear a0 af r0 rf
      go_wp2_with (at_builtin; refine wpList_append_own _ rfl _ _ 112 rfl (w.heap.size + 2) 140 i0 _ 4 48 Tryz.underlying112 hi hz0 hz1 hz2 rfl (by decide) _ _ _ rfl (((ownsRow_below hrv.rule.parts hb1).alloc _).alloc _) ⟨w1.heap.size + 1, 0, none⟩ 1 1 (pcell (p, .slice ta p.ts.length tc)) rfl rfl (cell_four_new' _ _ _ _ _ _ _ (by simp)) (pcell_one _ _ rfl) (by unfold maxLen; omega) (by omega) (by simp; omega) ?_; intro v' w2 ho hg _; obtain ⟨m1, m2⟩ := hrv.mid hb1 hg; have hrv2 := hrv.app hb1 ht hg ho; obtain ⟨d0, df, dz, dz0, s0, sf⟩ := rv_cells m1 m2; clear m1 m2; obtain ⟨ao', cap', rfl⟩ := ownsRow_shape ho; clear ho hg)
      go_roundw
      case rel => exact ⟨q + m, _, _, by go_num, hrv2, HS.out _⟩
      case measure => simp [intOf]; omega
    · have HD : Hid (smR s 6 0 = qs.map Prod.fst) := hst.done hc
      have hsm := hst.small
      have hparts : PartsIn wr ao (qs.map Prod.fst) := hrv.rule.reads (fun x hx => by have := hsm x hx; omega)
      have hqs : qs.length = (qs.map Prod.fst).length := by rw [List.length_map]
      have HL : Hid (qs.length = (qs.map Prod.fst).length) := hqs
      clear hst hsm hqs
      have hex : s.size ≤ q ∨ (q < s.size ∧ 6 ≤ qs.length) := by omega
      clear hc
      generalize hrs : qs.map Prod.fst = rs at *
      have hlr : rs.length ≤ 6 := by rw [← HL.out]; exact hlen
      have HQ : Hid (qs.map Prod.fst = rs) := hrs
      clear hrs
      have ez := HL.out
      rw [ez] at a0
      cases hR : isR rs
      · have HN : Hid (decS s = none) := ref_no s (.inl (by rw [HD.out]; exact hR))
        have he : Hid (encR rs = .tuple #[.string ⟨#[]⟩, .int .i64 2]) := by show encR rs = _; unfold encR; rw [hR]; rfl
        rcases hex with hge | ⟨hq, h6⟩
        all_goals
          go_wp2_with fail
          refine (refEncode_any rs ao cap _ (by omega) hparts).mono ?_
          rintro e w1 ⟨rfl, hb1⟩
          rw [he.out]
          have c1 : w1.cell? ⟨w.heap.size, 0, none⟩ = some (.slice none 0 0) := (hb1.cell az0).trans r0
          have f1 : w1.frozen? ⟨w.heap.size, 0, none⟩ = false := (hb1.frozen az0).trans rf
          go_wp2
          refine bodyPost_ret (v := .tuple #[.agg #[.slice none 0 0], .int .i64 1]) (by simp [results, Tryz.results53, go_sem, c1]) rfl ⟨?_, DecPost.no HN⟩
          exact ((below_first' hrv.bel).trans (hb1.mono (by omega))).setCell (Nat.le_refl _) _
      · have he : Hid (encR rs = .tuple #[.string (wParts rs), .int .i64 0]) := by show encR rs = _; unfold encR; rw [hR]; rfl
        by_cases hws : wParts rs = s
        · have HY : Hid (decS s = some (qs.map Prod.fst)) := by show _ = _; rw [HQ.out, ← HD.out]; exact ref_yes s (by rw [HD.out]; exact hR) (by rw [HD.out]; exact hws)
          rw [hws] at he
          clear hws
          rcases hex with hge | ⟨hq, h6⟩
          all_goals
            go_wp2_with fail
            refine (refEncode_any rs ao cap _ (by omega) hparts).mono ?_
            rintro e w1 ⟨rfl, hb1⟩
            rw [he.out]
            have c1 : w1.cell? ⟨w.heap.size, 0, none⟩ = some (.slice none 0 0) := (hb1.cell az0).trans r0
            have f1 : w1.frozen? ⟨w.heap.size, 0, none⟩ = false := (hb1.frozen az0).trans rf
            have c2 : w1.cell? ⟨w.heap.size + 1, 0, none⟩ = some (.slice ao rs.length cap) := (hb1.cell az).trans a0
            go_wp2
            refine bodyPost_ret (v := .tuple #[.agg #[.slice ao rs.length cap], .int .i64 0]) (by simp [results, Tryz.results53, go_sem, c1]) rfl ⟨?_, DecPost.yes HY ?_⟩
            · exact ((below_first' hrv.bel).trans (hb1.mono (by omega))).setCell (Nat.le_refl _) _
            · have h1 := ((hrv.rule.below hb1).setLow (a := ⟨w.heap.size, 0, none⟩) (by simp) (.slice ao rs.length cap)).base (B' := w.heap.size) (by omega)
              rw [ez] at h1
              exact h1
        · have HN : Hid (decS s = none) := ref_no s (.inr (by rw [HD.out]; exact hws))
          have hne : ((wParts rs).toList == s.toList) = false := by
            rw [ByteArray.toList_eq, ByteArray.toList_eq]
            exact beq_eq_false_iff_ne.2 (fun hh => hws (bl_inj hh))
          have hne2 : ((wParts rs).toList != s.toList) = true := by rw [bne, hne]; rfl
          clear hws
          rcases hex with hge | ⟨hq, h6⟩
          all_goals
            go_wp2_with fail
            refine (refEncode_any rs ao cap _ (by omega) hparts).mono ?_
            rintro e w1 ⟨rfl, hb1⟩
            rw [he.out]
            have c1 : w1.cell? ⟨w.heap.size, 0, none⟩ = some (.slice none 0 0) := (hb1.cell az0).trans r0
            have f1 : w1.frozen? ⟨w.heap.size, 0, none⟩ = false := (hb1.frozen az0).trans rf
            go_wp2
            refine bodyPost_ret (v := .tuple #[.agg #[.slice none 0 0], .int .i64 1]) (by simp [results, Tryz.results53, go_sem, c1]) rfl ⟨?_, DecPost.no HN⟩
            exact ((below_first' hrv.bel).trans (hb1.mono (by omega))).setCell (Nat.le_refl _) _
end Go.Proofs.YtgkiknfpcbcnnaaGreat
