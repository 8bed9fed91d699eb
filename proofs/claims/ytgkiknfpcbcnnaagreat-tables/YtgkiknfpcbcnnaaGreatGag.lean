import Derived.Test.YtgkiknfpcbcnnaaGreatGaf
namespace Go.Proofs.YtgkiknfpcbcnnaaGreat
open Go.RowKit
set_option maxRecDepth 20000
def sdV (r : Rl) (po : Option Addr) (pn pc : Nat) (ky : ByteArray) (co : Option Addr) (cn cc : Nat) : Value :=
  .agg #[.string r.tx, .int .i64 r.pe, .int .i64 r.ac, .slice po pn pc, .string ky, .int .i64 (nS (dS r.tx) : Nat), .slice co cn cc]
set_option maxHeartbeats 1600000 in
theorem earlier_any (r q : Rl) (po po' : Option Addr) (pn pc pn' pc' : Nat) (ky ky' : ByteArray) (co co' : Option Addr) (cn cc cn' cc' : Nat) (w : World) (h1 : bl ky = kyR r) (h2 : bl ky' = kyR q) :
    Calls Tryz.prog 88 #[sdV r po pn pc ky co cn cc, sdV q po' pn' pc' ky' co' cn' cc'] w fun e w' => e = .returned (.bool (erl r q)) ∧ Below w.heap.size w w' := by
  have HE : Hid (erl r q = (Op.bytesLess ky.toList ky'.toList || ((ky.toList == ky'.toList) && decide (r.pe < q.pe)))) := by
    show _ = _
    unfold erl
    rw [← h1, ← h2, ByteArray.toList_eq, ByteArray.toList_eq]
    have e : decide (bl ky = bl ky') = (ky.data.toList == ky'.data.toList) := by
      rw [Bool.eq_iff_iff]
      simp only [decide_eq_true_eq, beq_iff_eq]
      exact Iff.rfl
    rw [e]
    rfl
  clear h1 h2
  unfold sdV
  cases c1 : Op.bytesLess ky.toList ky'.toList
  · cases c2 : (ky.toList == ky'.toList)
    · rw [c1, c2] at HE
      go_enter Tryz.func88, Tryz.ntmps88
      go_wp2_with fail
      go_ret
      exact ⟨by rw [HE.out]; rfl, (below_alloc _ _).alloc (by simp) _⟩
    · rw [c1, c2] at HE
      cases c3 : decide (r.pe < q.pe)
      all_goals
        rw [c3] at HE
        go_enter Tryz.func88, Tryz.ntmps88
        go_wp2_with fail
        go_ret
        exact ⟨by rw [HE.out]; rfl, (below_alloc _ _).alloc (by simp) _⟩
  · rw [c1] at HE
    go_enter Tryz.func88, Tryz.ntmps88
    go_wp2_with fail
    go_ret
    exact ⟨by rw [HE.out]; rfl, (below_alloc _ _).alloc (by simp) _⟩
theorem infoInt : (Tryz.prog.info? 3).map (fun i => (i.zero, i.size, i.bytes)) = some (some (.int .i64 0), 1, 8) := by kernel_rfl
def IRow (w : World) (B : Nat) (v : Value) (l : List Int) : Prop := w.ownsRow B 3 1 v l.length (l.map (Value.int .i64))
theorem IRow.nil (w : World) (B : Nat) : IRow w B (.slice none 0 0) [] := World.ownsRow_nil _ _ _ _
theorem IRow.snoc {w : World} {B : Nat} {v : Value} {l : List Int} {n : Int} (h : w.ownsRow B 3 1 v (l.length + 1) (l.map (Value.int .i64) ++ [.int .i64 n])) : IRow w B v (l ++ [n]) := by
  unfold IRow; rw [List.length_append, List.map_append]; exact h
theorem ints_one (n : Int) : ∀ u ∈ [Value.int .i64 n], u.oneCell' = true := by
  intro u hu; simp only [List.mem_singleton] at hu; subst hu; rfl
structure SdR (w : World) (F : Nat → Prop) (s : Sd) : Prop where
  ok : SdOK w F s
  pe : peOK s.r.pe = true
  dec : (decS s.r.tx).isSome = true
end Go.Proofs.YtgkiknfpcbcnnaaGreat
namespace Go.Proofs.YtgkiknfpcbcnnaaGreat
open Go.RowKit
set_option maxRecDepth 20000
theorem dS_ne {tx : ByteArray} (h : (decS tx).isSome = true) : 0 < (dS tx).length := by
  obtain ⟨ps, hp⟩ := Option.isSome_iff_exists.1 h
  have hR := (decS_sound tx ps hp).1
  unfold dS
  rw [hp]
  cases ps with
  | nil => exact absurd hR (by decide)
  | cons a l => simp
theorem headD_get : ∀ (l : List Pt) (d : Pt) (h : 0 < l.length), l.headD d = l[0] := by
  intro l d h
  cases l with
  | nil => simp at h
  | cons a l => rfl
def p0S (tx : ByteArray) : Pt := (dS tx).headD ⟨0, 0, 0, []⟩
theorem p0S_get {tx : ByteArray} (h : 0 < (dS tx).length) : p0S tx = (dS tx)[0] := by
  exact headD_get _ _ h
theorem P0.of {w : World} {po : Option Addr} {tx : ByteArray} (h : PartsIn w po (dS tx)) (hl : 0 < (dS tx).length) : P0 w po (p0S tx) := by
  obtain ⟨b, off, ta, tc, e, c0, c1, c2, _⟩ := h 0 hl
  rw [p0S_get hl]
  simp only [Nat.zero_mul, Nat.add_zero] at c0 c1 c2
  exact ⟨b, off, e, World.block_lt_of_cell? _ _ c0, c0, c1, c2⟩
theorem p0S_pref {tx : ByteArray} (hl : 0 < (dS tx).length) (h1 : (p0S tx).ty = 1) : prefOK (p0S tx).bt (p0S tx).ln = true := by
  rw [p0S_get hl] at h1 ⊢
  exact (isP_pref (isP_dS tx 0 hl) (by rw [h1]; rfl)).2
theorem nS_bd (ps : List Pt) : nS ps ≤ 4294967296 := by
  obtain ⟨a, b, c⟩ := lens ps
  exact (mul_bd a b c).2
theorem SdR.below {w w' : World} {F : Nat → Prop} {s : Sd} (h : SdR w F s) (hF : ∀ b, F b → b < w.heap.size) (hb : Below w.heap.size w w') : SdR w' F s :=
  ⟨h.ok.same (fun b hf => hb.block b (hF b hf)), h.pe, h.dec⟩
theorem holding_s (g : Nat) (c : Cf) (ao : Option Addr) (cap : Nat) (rts : List Rt) (s : Sd) (F : Nat → Prop) (w : World) (hg : GRead w g c ao cap rts) (hs : SdR w F s) : ∃ po pn pc co cn cc, s.v = .slice po pn pc ∧ s.cv = .slice co cn cc ∧
    Calls Tryz.prog 89 #[.pointer (some ⟨g, 0, none⟩), sdV s.r po pn pc s.ky co cn cc] w fun e w' => e = .returned (.bool (holdS c rts s.r)) ∧ Below w.heap.size w w' := by
  obtain ⟨po, pc, hv, hp⟩ := hs.ok.rule.reads
  obtain ⟨co, cc, hcv⟩ := ownsRow_shape hs.ok.row
  have hl := dS_ne hs.dec
  refine ⟨po, _, pc, co, _, cc, hv, hcv, ?_⟩
  exact holding_any g c ao cap rts (p0S s.r.tx) s.r.tx s.ky s.r.pe s.r.ac _ po _ pc _ w hg (P0.of hp hl) hl hs.pe (p0S_pref hl)
set_option maxHeartbeats 1500000 in
theorem states_any (g : Nat) (c : Cf) (ao : Option Addr) (cap : Nat) (rts : List Rt) (L : List Sd) (so : Option Addr) (sc : Nat) (F : Nat → Prop) (w : World) (hg : GRead w g c ao cap rts) (hin : SdIn w so L) (hsd : ∀ s ∈ L, SdR w F s) (hF : ∀ b, F b → b < w.heap.size) (h24 : L.length ≤ 24) :
    Calls Tryz.prog 67 #[.pointer (some ⟨g, 0, none⟩), .slice so L.length sc] w fun e w' => (∃ v, e = .returned v ∧ IRow w' w.heap.size v (stF c rts ⟨#[]⟩ 0 false (L.map Sd.r))) ∧ Below w.heap.size w w' := by
  obtain ⟨i0, hi, hz0, hz1, hz2⟩ := info_parts infoInt
  have HG : Hid (GRead w g c ao cap rts) := hg
  have HI : Hid (SdIn w so L) := hin
  have HD : Hid (∀ s ∈ L, SdR w F s) := hsd
  have HF : Hid (∀ b, F b → b < w.heap.size) := hF
  clear hg hin hsd hF
  go_enter Tryz.func67, Tryz.ntmps67
  go_wp2_with fail
  go_loopw [5, 6, 7, 8, 9] (fun v la to fu x wr => ∃ (i : Nat) (O : List Int) (last : ByteArray) (tot : Int) (full : Bool), x = .int .i64 i ∧ la = .string last ∧ to = .int .i64 tot ∧ fu = .bool full ∧ i ≤ L.length ∧ 0 ≤ tot ∧ tot ≤ 4294967296 * (i : Int) ∧ O.length ≤ i ∧ IRow wr w.heap.size v O ∧ Hid (stF c rts ⟨#[]⟩ 0 false (L.map Sd.r) = O ++ stF c rts last tot full ((L.drop i).map Sd.r)) ∧ Below w.heap.size w wr) (fun _ _ _ _ x _ => L.length - (intOf x).toNat)
  case atStart => exact ⟨0, [], ⟨#[]⟩, 0, false, rfl, rfl, rfl, rfl, Nat.zero_le _, by omega, by omega, by simp, IRow.nil _ _, rfl, Below.refl _ _⟩
  case round =>
    obtain ⟨i, O, last, tot, full, rfl, rfl, rfl, rfl, hil, t0, t1, hOl, hrow, H, hb0⟩ := hrel
    obtain ⟨oo, oc, rfl⟩ := ownsRow_shape hrow
    have hz := hb0.size
    by_cases hlt : i < L.length
    · obtain ⟨rk, ro, rfl, bz2, c0, c1, c2, c3, c4, c5, c6⟩ := HI.out.below hb0 i hlt
      have hgr := HG.out.below hb0
      have hd : L.drop i = L[i] :: L.drop (i + 1) := List.drop_eq_getElem_cons hlt
      obtain ⟨po, pn, pc, co, cn, cc, hv, hcv, hcall⟩ := holding_s g c ao cap rts L[i] F wr hgr ((HD.out L[i] (List.getElem_mem hlt)).below HF.out hb0)
      rw [hd, List.map_cons] at H
      clear hd
      generalize L[i] = s at *
      rw [hv] at c3
      rw [hcv] at c6
      clear hv hcv
      have HCALL : Hid (Calls Tryz.prog 89 #[.pointer (some ⟨g, 0, none⟩), .agg #[.string s.r.tx, .int .i64 s.r.pe, .int .i64 s.r.ac, .slice po pn pc, .string s.ky, .int .i64 (nS (dS s.r.tx) : Nat), .slice co cn cc]] wr fun e w' => e = .returned (.bool (holdS c rts s.r)) ∧ Below wr.heap.size wr w') := hcall
      have hn := nS_bd (dS s.r.tx)
      have HB : Hid (wr.cell? ⟨g, 1, none⟩ = some (.int .i64 c.bu)) := hgr.bu
      have HCP : Hid (wr.cell? ⟨g, 0, none⟩ = some (.int .i64 c.cp)) := hgr.cp
      have hgz := hgr.lt
      clear hcall hgr
      simp only [stF] at H
      cases hh : holdS c rts s.r
      · rw [hh] at H HCALL
        simp only [Bool.false_eq_true, if_false] at H
        have HN : Hid (stF c rts ⟨#[]⟩ 0 false (L.map Sd.r) = (O ++ [0]) ++ stF c rts last tot full ((L.drop (i + 1)).map Sd.r)) := by show _ = _; rw [H.out, List.append_assoc]; rfl
        clear H hh
        go_wp2_with fail
        refine HCALL.out.mono ?_
        rintro e w1 ⟨rfl, hb1⟩
        have hrow1 := ownsRow_below hrow hb1
        have hzz := hb1.size
        have hb01 : Below w.heap.size w w1 := hb0.trans (hb1.mono hz)
        go_wp2_with (at_builtin; refine wpList_append_own _ rfl _ _ 131 rfl w.heap.size 3 i0 _ 1 8 Tryz.underlying131 hi hz0 hz1 hz2 rfl (by decide) (.slice oo O.length oc) O.length (O.map (Value.int .i64)) rfl (hrow1.alloc _) ⟨w1.heap.size, 0, none⟩ 1 1 [.int .i64 0] rfl rfl (World.news_of_block (heap_alloc_new w1 _)) (ints_one _) (by unfold maxLen; omega) (by omega) (by simp; omega) ?_; intro v' w4 hown hgrow _; obtain ⟨ao', cap', rfl⟩ := ownsRow_shape hown)
        go_roundw
        case rel => exact ⟨i + 1, O ++ [0], last, tot, full, by go_num, rfl, by first | rfl | go_num, rfl, by omega, by omega, by push_cast; omega, by simp; omega, IRow.snoc hown, HN, (hb01.alloc (by omega) _).grown hgrow (by simp; omega) (fun k hk => (World.ownsRow.lt hrow1 k hk).1)⟩
        case measure => simp [intOf]; omega
      · rw [hh] at H HCALL
        simp only [if_true] at H
        by_cases hla : s.r.tx = last
        · rw [if_pos hla] at H
          have HLA : Hid (s.r.tx = last) := hla
          clear hla
          have HN : Hid (stF c rts ⟨#[]⟩ 0 false (L.map Sd.r) = (O ++ [1]) ++ stF c rts last tot full ((L.drop (i + 1)).map Sd.r)) := by show _ = _; rw [H.out, List.append_assoc]; rfl
          clear H hh
          go_wp2_with fail
          refine HCALL.out.mono ?_
          rintro e w1 ⟨rfl, hb1⟩
          have hrow1 := ownsRow_below hrow hb1
          have hzz := hb1.size
          have hb01 : Below w.heap.size w w1 := hb0.trans (hb1.mono hz)
          have d0 := (hb1.cell (p := ⟨rk, ro + i * 7, none⟩) bz2).trans c0
          rw [HLA.out] at d0
          go_wp2_with (at_builtin; refine wpList_append_own _ rfl _ _ 131 rfl w.heap.size 3 i0 _ 1 8 Tryz.underlying131 hi hz0 hz1 hz2 rfl (by decide) (.slice oo O.length oc) O.length (O.map (Value.int .i64)) rfl (hrow1.alloc _) ⟨w1.heap.size, 0, none⟩ 1 1 [.int .i64 1] rfl rfl (World.news_of_block (heap_alloc_new w1 _)) (ints_one _) (by unfold maxLen; omega) (by omega) (by simp; omega) ?_; intro v' w4 hown hgrow _; obtain ⟨ao', cap', rfl⟩ := ownsRow_shape hown)
          go_roundw
          case rel => exact ⟨i + 1, O ++ [1], last, tot, full, by go_num, rfl, by first | rfl | go_num, rfl, by omega, by omega, by push_cast; omega, by simp; omega, IRow.snoc hown, HN, (hb01.alloc (by omega) _).grown hgrow (by simp; omega) (fun k hk => (World.ownsRow.lt hrow1 k hk).1)⟩
          case measure => simp [intOf]; omega
        · rw [if_neg hla] at H
          have q2 : (s.r.tx.toList == last.toList) = false := text_ne hla
          obtain ⟨n, hnn⟩ : ∃ n, n = nS (dS s.r.tx) := ⟨_, rfl⟩
          rw [← hnn] at H hn c5 HCALL
          clear hnn hh hla
          go_wp2_with fail
          refine HCALL.out.mono ?_
          rintro e w1 ⟨rfl, hb1⟩
          have hrow1 := ownsRow_below hrow hb1
          have hzz := hb1.size
          have hb01 : Below w.heap.size w w1 := hb0.trans (hb1.mono hz)
          have d0 := (hb1.cell (p := ⟨rk, ro + i * 7, none⟩) bz2).trans c0
          have d5 := (hb1.cell (p := ⟨rk, ro + i * 7 + 5, none⟩) bz2).trans c5
          have e0 := (hb1.cell (p := ⟨g, 0, none⟩) hgz).trans HCP.out
          have e1 := (hb1.cell (p := ⟨g, 1, none⟩) hgz).trans HB.out
          clear HCALL HB HCP c0 c1 c2 c3 c4 c5 c6
          cases full <;> cases x1 : decide (c.bu < (n : Int)) <;> cases x2 : decide (c.cp < tot + (n : Int))
          all_goals
            rw [x1, x2] at H
            simp only [Bool.or_self, Bool.or_true, Bool.or_false, Bool.false_eq_true, if_true, if_false] at H
            first
              | (have HN : Hid (stF c rts ⟨#[]⟩ 0 false (L.map Sd.r) = (O ++ [2]) ++ stF c rts s.r.tx (tot + (n : Int)) true ((L.drop (i + 1)).map Sd.r)) := (by show _ = _; rw [H.out, List.append_assoc]; rfl)
                 clear H
                 go_wp2_with fail
                 go_quiet (fail)
                 have hbq := below_drewN hb01 nq
                 have hrq := ownsRow_below hrow1 (below_drewN (Below.refl w1.heap.size w1) nq)
                 generalize w1.drewN nq = wq at *
                 have hzq := hbq.size
                 go_wp2_with (at_builtin; refine wpList_append_own _ rfl _ _ 131 rfl w.heap.size 3 i0 _ 1 8 Tryz.underlying131 hi hz0 hz1 hz2 rfl (by decide) (.slice oo O.length oc) O.length (O.map (Value.int .i64)) rfl (hrq.alloc _) ⟨wq.heap.size, 0, none⟩ 1 1 [.int .i64 2] rfl rfl (World.news_of_block (heap_alloc_new wq _)) (ints_one _) (by unfold maxLen; omega) (by omega) (by simp; omega) ?_; intro v' w4 hown hgrow _; obtain ⟨ao', cap', rfl⟩ := ownsRow_shape hown)
                 go_roundw
                 case rel => exact ⟨i + 1, O ++ [2], s.r.tx, tot + (n : Int), true, by go_num, rfl, by go_num, rfl, by omega, by omega, by push_cast; omega, by simp; omega, IRow.snoc hown, HN, (hbq.alloc (by omega) _).grown hgrow (by simp; omega) (fun k hk => (World.ownsRow.lt hrq k hk).1)⟩
                 case measure => simp [intOf]; omega)
              | (have HN : Hid (stF c rts ⟨#[]⟩ 0 false (L.map Sd.r) = (O ++ [3]) ++ stF c rts s.r.tx (tot + (n : Int)) false ((L.drop (i + 1)).map Sd.r)) := (by show _ = _; rw [H.out, List.append_assoc]; rfl)
                 clear H
                 go_wp2_with fail
                 go_quiet (fail)
                 have hbq := below_drewN hb01 nq
                 have hrq := ownsRow_below hrow1 (below_drewN (Below.refl w1.heap.size w1) nq)
                 generalize w1.drewN nq = wq at *
                 have hzq := hbq.size
                 go_wp2_with (at_builtin; refine wpList_append_own _ rfl _ _ 131 rfl w.heap.size 3 i0 _ 1 8 Tryz.underlying131 hi hz0 hz1 hz2 rfl (by decide) (.slice oo O.length oc) O.length (O.map (Value.int .i64)) rfl (hrq.alloc _) ⟨wq.heap.size, 0, none⟩ 1 1 [.int .i64 3] rfl rfl (World.news_of_block (heap_alloc_new wq _)) (ints_one _) (by unfold maxLen; omega) (by omega) (by simp; omega) ?_; intro v' w4 hown hgrow _; obtain ⟨ao', cap', rfl⟩ := ownsRow_shape hown)
                 go_roundw
                 case rel => exact ⟨i + 1, O ++ [3], s.r.tx, tot + (n : Int), false, by go_num, rfl, by go_num, rfl, by omega, by omega, by push_cast; omega, by simp; omega, IRow.snoc hown, HN, (hbq.alloc (by omega) _).grown hgrow (by simp; omega) (fun k hk => (World.ownsRow.lt hrq k hk).1)⟩
                 case measure => simp [intOf]; omega)
    · have HX : Hid (stF c rts ⟨#[]⟩ 0 false (L.map Sd.r) = O) := by
        show _ = _
        rw [H.out, List.drop_of_length_le (by omega)]
        simp [stF]
      clear H
      go_wp2_with fail
      go_ret
      exact ⟨⟨_, rfl, by rw [HX.out]; exact hrow⟩, hb0⟩
end Go.Proofs.YtgkiknfpcbcnnaaGreat
namespace Go.Proofs.YtgkiknfpcbcnnaaGreat
open Go.RowKit
set_option maxRecDepth 20000
def insS (a : Sd) : List Sd → List Sd
  | [] => [a]
  | b :: l => if erl a.r b.r then a :: b :: l else b :: insS a l
def sortS : List Sd → List Sd
  | [] => []
  | a :: l => insS a (sortS l)
theorem insS_perm (a : Sd) : ∀ l, (insS a l).Perm (a :: l) := by
  intro l
  induction l with
  | nil => exact List.Perm.refl _
  | cons b l ih =>
    simp only [insS]
    split
    · exact List.Perm.refl _
    · exact (List.Perm.cons b ih).trans (List.Perm.swap a b l)
theorem sortS_perm : ∀ l, (sortS l).Perm l := by
  intro l
  induction l with
  | nil => exact List.Perm.refl _
  | cons a l ih => exact (insS_perm a _).trans (List.Perm.cons a ih)
theorem insS_map (a : Sd) : ∀ l, (insS a l).map Sd.r = insR a.r (l.map Sd.r) := by
  intro l
  induction l with
  | nil => rfl
  | cons b l ih =>
    simp only [insS, List.map_cons, insR]
    split
    · rfl
    · rw [List.map_cons, ih]
theorem sortS_map : ∀ l, (sortS l).map Sd.r = sortR (l.map Sd.r) := by
  intro l
  induction l with
  | nil => rfl
  | cons a l ih => simp only [sortS, List.map_cons, sortR]; rw [insS_map, ih]
def posS (l : List Sd) (s : Sd) : Nat := l.countP (fun q => erl q.r s.r)
theorem posS_map (l : List Sd) (s : Sd) : posS l s = (l.map Sd.r).countP (fun b => erl b s.r) := by
  unfold posS
  rw [List.countP_map]
  rfl
theorem posS_sort {l : List Sd} (ht : Tel (l.map Sd.r)) (p : Nat) (hp : p < (sortS l).length) : posS l (sortS l)[p] = p := by
  have h1 : posS l (sortS l)[p] = posS (sortS l) (sortS l)[p] := by
    unfold posS
    exact ((sortS_perm l).countP_eq _).symm
  rw [h1, posS_map]
  have hs := sortR_sorted ht
  rw [← sortS_map] at hs
  have hp2 : p < ((sortS l).map Sd.r).length := by rw [List.length_map]; exact hp
  have := place hs p hp2
  rw [List.getElem_map] at this
  exact this
theorem posS_lt {l : List Sd} {s : Sd} (hs : s ∈ l) : posS l s < l.length := by
  have h1 : posS l s ≤ l.length := List.countP_le_length
  have h2 : posS l s ≠ l.length := by
    intro he
    unfold posS at he
    rw [List.countP_eq_length] at he
    have := he s hs
    rw [erl_irrefl] at this
    cases this
  omega
theorem sort_fill {l : List Sd} (ht : Tel (l.map Sd.r)) {M : List (List Value)} (hM : M.length = l.length) (h : ∀ s ∈ l, M[posS l s]? = some (sdC s)) : M = (sortS l).map sdC := by
  apply List.ext_getElem?
  intro p
  have hlen := (sortS_perm l).length_eq
  by_cases hp : p < (sortS l).length
  · rw [List.getElem?_map, List.getElem?_eq_getElem hp]
    have hm : (sortS l)[p] ∈ l := (sortS_perm l).mem_iff.1 (List.getElem_mem hp)
    have := h _ hm
    rw [posS_sort ht p hp] at this
    exact this
  · rw [List.getElem?_eq_none (by omega), List.getElem?_eq_none (by rw [List.length_map]; omega)]
end Go.Proofs.YtgkiknfpcbcnnaaGreat
