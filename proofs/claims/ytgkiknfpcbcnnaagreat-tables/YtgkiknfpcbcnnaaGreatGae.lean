import Derived.Test.YtgkiknfpcbcnnaaGreatGad
import Derived.Test.YtgkiknfpcbcnnaaGreatCmp7
namespace Go.Proofs.YtgkiknfpcbcnnaaGreat
open Go.RowKit
set_option maxRecDepth 20000
def SRow (w : World) (B : Nat) (v : Value) (l : List Sd) : Prop := w.ownsRow B 119 7 v l.length (sdCs l)
theorem SRow.nil (w : World) (B : Nat) : SRow w B (.slice none 0 0) [] := World.ownsRow_nil _ _ _ _
theorem SRow.snoc {w : World} {B : Nat} {v : Value} {l : List Sd} {s : Sd} (h : w.ownsRow B 119 7 v (l.length + 1) (sdCs l ++ sdC s)) : SRow w B v (l ++ [s]) := by
  have e : sdCs (l ++ [s]) = sdCs l ++ sdC s := by simp [sdCs]
  unfold SRow; rw [e, List.length_append]; exact h
theorem sdCs_get : ∀ (l : List Sd) (i : Nat) (h : i < l.length), (sdCs l)[i * 7]? = some (.string l[i].r.tx) ∧ (sdCs l)[i * 7 + 1]? = some (.int .i64 l[i].r.pe) ∧ (sdCs l)[i * 7 + 2]? = some (.int .i64 l[i].r.ac) ∧ (sdCs l)[i * 7 + 3]? = some l[i].v ∧ (sdCs l)[i * 7 + 4]? = some (.string l[i].ky) ∧ (sdCs l)[i * 7 + 5]? = some (.int .i64 (nS (dS l[i].r.tx) : Nat)) ∧ (sdCs l)[i * 7 + 6]? = some l[i].cv := by
  intro l
  induction l with
  | nil => intro i h; simp at h
  | cons a l ih =>
    intro i h
    have e : sdCs (a :: l) = .string a.r.tx :: .int .i64 a.r.pe :: .int .i64 a.r.ac :: a.v :: .string a.ky :: .int .i64 (nS (dS a.r.tx) : Nat) :: a.cv :: sdCs l := rfl
    rw [e]
    cases i with
    | zero => exact ⟨rfl, rfl, rfl, rfl, rfl, rfl, rfl⟩
    | succ i =>
      have e1 : (i + 1) * 7 = i * 7 + 1 + 1 + 1 + 1 + 1 + 1 + 1 := by omega
      rw [e1]
      simp only [List.getElem?_cons_succ, List.getElem_cons_succ]
      exact ih i (by simpa using h)
def SdAt (w : World) (lo : Option Addr) (i : Nat) (s : Sd) : Prop :=
  ∃ b off, lo = some ⟨b, off, none⟩ ∧ b < w.heap.size ∧ w.cell? ⟨b, off + i * 7, none⟩ = some (.string s.r.tx) ∧ w.cell? ⟨b, off + i * 7 + 1, none⟩ = some (.int .i64 s.r.pe) ∧ w.cell? ⟨b, off + i * 7 + 2, none⟩ = some (.int .i64 s.r.ac) ∧
    w.cell? ⟨b, off + i * 7 + 3, none⟩ = some s.v ∧ w.cell? ⟨b, off + i * 7 + 4, none⟩ = some (.string s.ky) ∧ w.cell? ⟨b, off + i * 7 + 5, none⟩ = some (.int .i64 (nS (dS s.r.tx) : Nat)) ∧ w.cell? ⟨b, off + i * 7 + 6, none⟩ = some s.cv
def SdIn (w : World) (lo : Option Addr) (l : List Sd) : Prop := ∀ i (h : i < l.length), SdAt w lo i l[i]
theorem SdIn.below {w w' : World} {lo : Option Addr} {l : List Sd} (h : SdIn w lo l) (hb : Below w.heap.size w w') : SdIn w' lo l := by
  intro i hi
  obtain ⟨b, off, e, hlt, c0, c1, c2, c3, c4, c5, c6⟩ := h i hi
  exact ⟨b, off, e, Nat.lt_of_lt_of_le hlt hb.size, (hb.cell hlt).trans c0, (hb.cell hlt).trans c1, (hb.cell hlt).trans c2, (hb.cell hlt).trans c3, (hb.cell hlt).trans c4, (hb.cell hlt).trans c5, (hb.cell hlt).trans c6⟩
theorem SdIn.of {w : World} {B : Nat} {lo : Option Addr} {n c : Nat} {l : List Sd} (h : w.ownsRow B 119 7 (.slice lo n c) l.length (sdCs l)) : SdIn w lo l := by
  intro i hi
  rcases h.2 with ⟨_, h0⟩ | ⟨g, c', cur, hv, hg, hh, _⟩
  · omega
  · simp only [Value.slice.injEq] at hv
    obtain ⟨e0, e1, e2, e3, e4, e5, e6⟩ := sdCs_get l i hi
    have k := fun j u hh => h.cells (g := g) (by rw [hv.1]; rfl) j u hh
    have c0 := k _ _ e0
    have c1 := k _ _ e1
    have c2 := k _ _ e2
    have c3 := k _ _ e3
    have c4 := k _ _ e4
    have c5 := k _ _ e5
    have c6 := k _ _ e6
    rw [add0] at c0 c1 c2 c3 c4 c5 c6
    exact ⟨g, 0, hv.1, lt_of_block hh, c0, by rw [← Nat.add_assoc] at c1; exact c1, by rw [← Nat.add_assoc] at c2; exact c2, by rw [← Nat.add_assoc] at c3; exact c3, by rw [← Nat.add_assoc] at c4; exact c4, by rw [← Nat.add_assoc] at c5; exact c5, by rw [← Nat.add_assoc] at c6; exact c6⟩
theorem infoSaid : (Tryz.prog.info? 119).map (fun i => (i.zero, i.size, i.bytes)) = some (some (.agg #[.string ⟨#[]⟩, .int .i64 0, .int .i64 0, .slice none 0 0, .string ⟨#[]⟩, .int .i64 0, .slice none 0 0]), 7, 104) := by kernel_rfl
theorem SdOK.shape {w : World} {F : Nat → Prop} {s : Sd} (h : SdOK w F s) : ∃ po pn pc co cn cc, s.v = .slice po pn pc ∧ s.cv = .slice co cn cc := by
  obtain ⟨ao, cap, h1, _⟩ := h.rule.reads
  obtain ⟨co, cc, h2⟩ := ownsRow_shape h.row
  exact ⟨ao, _, cap, co, _, cc, h1, h2⟩
theorem sdC_one {s : Sd} {po co : Option Addr} {pn pc cn cc : Nat} (h1 : s.v = .slice po pn pc) (h2 : s.cv = .slice co cn cc) : ∀ u ∈ sdC s, u.oneCell' = true := by
  intro u hu
  simp only [sdC, List.mem_cons, List.not_mem_nil, or_false] at hu
  rcases hu with rfl | rfl | rfl | rfl | rfl | rfl | rfl
  · rfl
  · rfl
  · rfl
  · rw [h1]; rfl
  · rfl
  · rfl
  · rw [h2]; rfl
theorem RGate.said {w : World} {g : Nat} {st : Gs} {F : Nat → Prop} (h : RGate w g st F) : ∃ lo lc qs, w.cell? ⟨g, 7, none⟩ = some (.slice lo st.rls.length lc) ∧ qs.map Sd.r = st.rls ∧ SRow w 0 (.slice lo st.rls.length lc) qs ∧ (∀ s ∈ qs, SdOK w (fun b => F b ∧ b ≠ g) s) ∧ w.frozen? ⟨g, 7, none⟩ = false ∧ g < w.heap.size := by
  obtain ⟨rv, lv, qs, h1, h2, h3, h4, h5, h6, h7⟩ := h.ex
  obtain ⟨lo, lc, rfl⟩ := ownsRow_shape h3
  have hl : qs.length = st.rls.length := by rw [← h4, List.length_map]
  refine ⟨lo, lc, qs, cell_of_row w g 7 _ _ _ h1, h4, ?_, h5, frozen_of_row _ _ _ _ _ h1, h.lt g h.own⟩
  unfold SRow; rw [hl]; exact h3
theorem RGate.setL {w w4 : World} {g : Nat} {st : Gs} {F : Nat → Prop} {v : Value} {qs' : List Sd} (h : RGate w g st F) (hb : Below w.heap.size w w4) (hrow : SRow w4 w.heap.size v qs') (hsd : ∀ s ∈ qs', SdOK w4 (fun b => (F b ∨ (w.heap.size ≤ b ∧ b < w4.heap.size)) ∧ b ≠ g) s) (hok : GsOK { st with rls := qs'.map Sd.r }) :
    RGate (w4.setCell ⟨g, 7, none⟩ v) g { st with rls := qs'.map Sd.r } (Fr F w (w4.setCell ⟨g, 7, none⟩ v)) ∧ Off F w (w4.setCell ⟨g, 7, none⟩ v) := by
  obtain ⟨rv, lv, qs, h1, h2, h3, h4, h5, h6, h7⟩ := h.ex
  have hg := h.lt g h.own
  have hsz : (w4.setCell ⟨g, 7, none⟩ v).heap.size = w4.heap.size := by simp only [World.setCell, Array.size_modify]
  have hz := hb.size
  have e1 : w4.heap[g]? = _ := (hb.block g hg).trans h1
  have e2 := heap_setCell_same w4 g 7 _ _ v e1
  have oth : ∀ b, b ≠ g → (w4.setCell ⟨g, 7, none⟩ v).heap[b]? = w4.heap[b]? := fun b hne => Below.heap_setCell _ _ _ _ hne
  have old : ∀ b, F b → b ≠ g → (w4.setCell ⟨g, 7, none⟩ v).heap[b]? = w.heap[b]? := fun b hf hne => (oth b hne).trans (hb.block b (h.lt b hf))
  have hl : (qs'.map Sd.r).length = qs'.length := List.length_map _
  refine ⟨⟨⟨rv, v, qs', e2, ownsRow_same h2 (fun b hbk => old b (h6 b hbk).1 (h6 b hbk).2), ?_, rfl, ?_, fun b hbk => ⟨.inl (h6 b hbk).1, (h6 b hbk).2⟩, ?_⟩, .inl h.own, hok, ?_⟩, (Off.of hb).setCell (.inl h.own) v⟩
  · show World.ownsRow _ 0 _ 7 v (qs'.map Sd.r).length (sdCs qs')
    rw [hl]
    exact ownsRow_base (ownsRow_same hrow (fun b hbk => oth b (fun e => by have := (World.ownsRow.lt hrow b hbk).1; omega))) (Nat.zero_le _)
  · intro s hs
    refine ((hsd s hs).same (fun b hf => oth b hf.2)).mono (fun b hf => ⟨?_, hf.2⟩)
    rcases hf.1 with hf1 | hf1
    · exact .inl hf1
    · exact .inr ⟨hf1.1, by rw [hsz]; exact hf1.2⟩
  · intro b hbk
    have := World.ownsRow.lt hrow b hbk
    exact ⟨.inr ⟨this.1, by rw [hsz]; exact this.2⟩, by omega⟩
  · intro b hf
    rcases hf with hf | hf
    · have := h.lt b hf; omega
    · exact hf.2
theorem sfilter_take (f : Sd → Bool) (l : List Sd) (i : Nat) (h : i < l.length) : (l.take (i + 1)).filter f = (l.take i).filter f ++ (if f l[i] then [l[i]] else []) := by
  rw [List.take_add_one, List.getElem?_eq_getElem h, List.filter_append]
  simp only [Option.toList, List.filter_cons, List.filter_nil]
theorem sfilter_map (f : Rl → Bool) : ∀ l : List Sd, (l.filter (fun s => f s.r)).map Sd.r = (l.map Sd.r).filter f := by
  intro l
  induction l with
  | nil => rfl
  | cons a l ih =>
    simp only [List.filter_cons, List.map_cons]
    split
    · rw [List.map_cons, ih]
    · exact ih
theorem reS_no {st : Gs} {pe : Int} {tx : ByteArray} (h : reE st pe tx ≠ 0) : reS st pe tx = st := by unfold reS; rw [if_neg h]
theorem adS_no {st : Gs} {pe : Int} {tx : ByteArray} {ac : Int} (h : adE st pe tx ac ≠ 0) : adS st pe tx ac = st := by unfold adS; rw [if_neg h]
end Go.Proofs.YtgkiknfpcbcnnaaGreat
namespace Go.Proofs.YtgkiknfpcbcnnaaGreat
open Go.RowKit
set_option maxRecDepth 20000
theorem text_ne {a b : ByteArray} (h : a ≠ b) : (a.toList == b.toList) = false := by
  rw [ByteArray.toList_eq, ByteArray.toList_eq]
  exact beq_eq_false_iff_ne.2 fun e => h (bl_inj e)
set_option maxHeartbeats 4000000 in
theorem refRemove_any (g : Nat) (st : Gs) (F : Nat → Prop) (pe : Int) (tx : ByteArray) (w : World) (h : RGate w g st F) (hs : tx.size ≤ 140737488351232) :
    Calls Tryz.prog 30 #[.pointer (some ⟨g, 0, none⟩), .int .i64 pe, .string tx] w fun e w' => RPost F w g (reE st pe tx) (reS st pe tx) e w' := by
  obtain ⟨i0, hi, hz0, hz1, hz2⟩ := info_parts infoSaid
  have HR : Hid (RGate w g st F) := h
  obtain ⟨lo, lc, qs, k7, hqr, hrow0, hsd, f7, hgz⟩ := h.said
  have hql : st.rls.length = qs.length := by rw [← hqr, List.length_map]
  rw [hql] at k7 hrow0
  have h24 : qs.length ≤ 24 := by rw [← hql]; exact h.ok.l24
  have HI : Hid (SdIn w lo qs) := SdIn.of hrow0
  have HD : Hid (∀ s ∈ qs, SdOK w (fun b => F b ∧ b ≠ g) s) := hsd
  have HQ : Hid (qs.map Sd.r = st.rls) := hqr
  have HQL : Hid (st.rls.length = qs.length) := hql
  clear h hqr hsd hql hrow0
  by_cases hpe : pe < 0 ∨ 3 < pe
  · have hx : reE st pe tx = 6 := by unfold reE; rw [peOK_no hpe]; rfl
    have HX : Hid (reE st pe tx = 6) := hx
    have HS : Hid (reS st pe tx = st) := reS_no (by omega)
    have hg3 : decide (pe < 0) = true ∨ (decide (pe < 0) = false ∧ decide (3 < pe) = true) := by
      rcases hpe with hp | hp
      · left; simpa using hp
      · right; exact ⟨by simp; omega, by simpa using hp⟩
    clear hx hpe
    rcases hg3 with g1 | ⟨g1, g2⟩
    all_goals
      go_enter Tryz.func30, Tryz.ntmps30
      go_wp2_with fail
      refine (ref2 tx _ hs).mono ?_
      rintro e w1 ⟨hb1, ao, cap, qs0, rfl, hq0, hr⟩
      clear hq0 hr
      go_wp2_with fail
      go_ret
      exact RPost.no HR.out (hb1.alloc hb1.size _) HX HS
  · have p0 : 0 ≤ pe := by omega
    have p3 : pe ≤ 3 := by omega
    have hpeo := peOK_yes p0 p3
    have g1 : decide (pe < 0) = false := by simp; omega
    have g2 : decide (3 < pe) = false := by simp; omega
    clear hpe
    cases hdc : (decS tx).isSome
    · have hx : reE st pe tx = 1 := by unfold reE; rw [hpeo, hdc]; rfl
      have HX : Hid (reE st pe tx = 1) := hx
      have HS : Hid (reS st pe tx = st) := reS_no (by omega)
      have e1 := eS_no hdc
      clear hx hdc
      go_enter Tryz.func30, Tryz.ntmps30
      go_wp2_with fail
      refine (ref2 tx _ hs).mono ?_
      rintro e w1 ⟨hb1, ao, cap, qs0, rfl, hq0, hr⟩
      rw [e1]
      clear hq0 hr e1
      go_wp2_with fail
      go_ret
      exact RPost.no HR.out (hb1.alloc hb1.size _) HX HS
    · have hE : reE st pe tx = if (st.rls.filter (rlNe pe tx)).length = st.rls.length then 11 else 0 := by unfold reE; rw [hpeo, hdc]; rfl
      have HE : Hid (reE st pe tx = if (st.rls.filter (rlNe pe tx)).length = st.rls.length then 11 else 0) := hE
      have e1 := eS_yes hdc
      clear hE hpeo hdc
      go_enter Tryz.func30, Tryz.ntmps30
      go_wp2_with fail
      refine (ref2 tx _ hs).mono ?_
      rintro e w1 ⟨hb1, ao, cap, qs0, rfl, hq0, hr⟩
      rw [e1]
      clear hq0 hr e1
      have hb1a := hb1.alloc hb1.size (.cells #[.slice ao (dS tx).length cap] 114)
      go_wp2_with fail
      go_loopw [9, 10] (fun v x wr => ∃ (i : Nat) (T : List Sd), x = .int .i64 i ∧ i ≤ qs.length ∧ SRow wr w.heap.size v T ∧ Hid (T = (qs.take i).filter (fun s => rlNe pe tx s.r)) ∧ Below w.heap.size w wr) (fun _ x _ => qs.length - (intOf x).toNat)
      case atStart => exact ⟨0, [], rfl, Nat.zero_le _, SRow.nil _ _, rfl, hb1a⟩
      case round =>
        clear hb1 hb1a
        obtain ⟨i, T, rfl, hil, hrow, HT, hb0⟩ := hrel
        obtain ⟨oo, oc, rfl⟩ := ownsRow_shape hrow
        have k7w := (hb0.cell (p := ⟨g, 7, none⟩) hgz).trans k7
        have hz := hb0.size
        have hTl : T.length ≤ 24 := by
          rw [HT.out]
          refine Nat.le_trans (List.length_filter_le _ _) ?_
          rw [List.length_take]; omega
        by_cases hlt : i < qs.length
        · obtain ⟨rk, ro, rfl, bz2, c0, c1, c2, c3, c4, c5, c6⟩ := HI.out.below hb0 i hlt
          obtain ⟨po, pn, pc, co, cn, cc, hv, hcv⟩ := (HD.out qs[i] (List.getElem_mem hlt)).shape
          have hft := sfilter_take (fun s => rlNe pe tx s.r) qs i hlt
          have HFT : Hid ((qs.take (i + 1)).filter (fun s => rlNe pe tx s.r) = (qs.take i).filter (fun s => rlNe pe tx s.r) ++ (if rlNe pe tx qs[i].r then [qs[i]] else [])) := hft
          clear hft
          generalize qs[i] = q at *
          have H1 := sdC_one hv hcv
          have HONE : Hid (∀ u ∈ sdC q, u.oneCell' = true) := H1
          have HC : Hid (sdC q = [.string q.r.tx, .int .i64 q.r.pe, .int .i64 q.r.ac, .slice po pn pc, .string q.ky, .int .i64 (nS (dS q.r.tx) : Nat), .slice co cn cc]) := by show _ = _; unfold sdC; rw [hv, hcv]
          rw [hv] at c3
          rw [hcv] at c6
          clear H1 hv hcv
          have hkeep : ¬ (q.r.pe = pe ∧ q.r.tx = tx) → Hid (T ++ [q] = (qs.take (i + 1)).filter (fun s => rlNe pe tx s.r)) := fun hne => by
            show _ = _
            rw [HFT.out, (rlNe_iff pe tx q.r).2 hne, ← HT.out]
            rfl
          have hdrop : (q.r.pe = pe ∧ q.r.tx = tx) → Hid (T = (qs.take (i + 1)).filter (fun s => rlNe pe tx s.r)) := fun he => by
            show _ = _
            have hno : rlNe pe tx q.r = false := by
              cases hh : rlNe pe tx q.r
              · rfl
              · exact absurd he ((rlNe_iff _ _ _).1 hh)
            rw [HFT.out, hno, ← HT.out]
            simp
          clear HFT HT
          by_cases e1 : q.r.pe = pe
          · by_cases e2 : q.r.tx = tx
            · have HN := hdrop ⟨e1, e2⟩
              have q1 : (q.r.pe != pe) = false := by simpa using e1
              rw [e2] at c0
              clear hkeep hdrop e1 e2 HC HONE
              go_wp2_with fail
              go_roundw
              case rel => exact ⟨i + 1, T, by go_num, by omega, hrow, HN, hb0⟩
              case measure => simp [intOf]; omega
            · have HN := hkeep (fun h => e2 h.2)
              have q1 : (q.r.pe != pe) = false := by simpa using e1
              have q2 : (q.r.tx.toList == tx.toList) = false := text_ne e2
              clear hkeep hdrop e1 e2
              go_wp2_with (at_builtin; refine wpList_append_own _ rfl _ _ 75 rfl w.heap.size 119 i0 _ 7 104 Tryz.underlying75 hi hz0 hz1 hz2 rfl (by decide) (.slice oo T.length oc) T.length (sdCs T) rfl (hrow.alloc _) ⟨wr.heap.size, 0, none⟩ 1 1 (sdC q) rfl rfl (by rw [HC.out]; exact World.news_of_block (heap_alloc_new wr _)) HONE.out (by unfold maxLen; omega) (by omega) (by simp; omega) ?_; intro v' w4 hown hgrow _; obtain ⟨ao', cap', rfl⟩ := ownsRow_shape hown)
              go_roundw
              case rel => exact ⟨i + 1, _, by go_num, by omega, SRow.snoc hown, HN, (hb0.alloc hz _).grown hgrow (by simp; omega) (fun k hk => (World.ownsRow.lt hrow k hk).1)⟩
              case measure => simp [intOf]; omega
          · have HN := hkeep (fun h => e1 h.1)
            have q1 : (q.r.pe != pe) = true := by simpa using e1
            clear hkeep hdrop e1
            go_wp2_with (at_builtin; refine wpList_append_own _ rfl _ _ 75 rfl w.heap.size 119 i0 _ 7 104 Tryz.underlying75 hi hz0 hz1 hz2 rfl (by decide) (.slice oo T.length oc) T.length (sdCs T) rfl (hrow.alloc _) ⟨wr.heap.size, 0, none⟩ 1 1 (sdC q) rfl rfl (by rw [HC.out]; exact World.news_of_block (heap_alloc_new wr _)) HONE.out (by unfold maxLen; omega) (by omega) (by simp; omega) ?_; intro v' w4 hown hgrow _; obtain ⟨ao', cap', rfl⟩ := ownsRow_shape hown)
            go_roundw
            case rel => exact ⟨i + 1, _, by go_num, by omega, SRow.snoc hown, HN, (hb0.alloc hz _).grown hgrow (by simp; omega) (fun k hk => (World.ownsRow.lt hrow k hk).1)⟩
            case measure => simp [intOf]; omega
        · have HTa : Hid (T.map Sd.r = st.rls.filter (rlNe pe tx)) := by show _ = _; rw [HT.out, List.take_of_length_le (by omega), sfilter_map, HQ.out]
          have HTs : Hid (∀ s ∈ T, s ∈ qs) := fun s hs => by rw [HT.out] at hs; exact List.mem_of_mem_take (List.mem_filter.1 hs).1
          have hlen : (st.rls.filter (rlNe pe tx)).length = T.length := by rw [← HTa.out, List.length_map]
          have HLE : Hid ((st.rls.filter (rlNe pe tx)).length = T.length) := hlen
          clear HT hlen
          by_cases hfull : T.length = qs.length
          · have hx : reE st pe tx = 11 := by rw [HE.out, HLE.out, HQL.out, if_pos hfull]
            have HX : Hid (reE st pe tx = 11) := hx
            have HS : Hid (reS st pe tx = st) := reS_no (by omega)
            have g5 : ((T.length : Int) == (qs.length : Int)) = true := by simp; omega
            clear hx HE hfull HTa
            go_wp2_with fail
            go_ret
            exact RPost.no HR.out hb0 HX HS
          · have hx : reE st pe tx = 0 := by rw [HE.out, HLE.out, HQL.out, if_neg hfull]
            have HX : Hid (reE st pe tx = 0) := hx
            have HS : Hid (reS st pe tx = { st with rls := T.map Sd.r }) := by show _ = _; unfold reS; rw [if_pos hx, HTa.out]
            have HO : Hid (GsOK (reS st pe tx)) := HR.out.ok.re pe tx
            have g5 : ((T.length : Int) == (qs.length : Int)) = false := by simp; omega
            have f4 := (hb0.frozen (p := ⟨g, 7, none⟩) hgz).trans f7
            clear hx HE HTa hfull
            go_wp2_with fail
            go_ret
            have hset := HR.out.setL hb0 hrow (fun s hs => ((HD.out s (HTs.out s hs)).same (fun b hf => hb0.block b (HR.out.lt b hf.1))).mono (fun b hf => ⟨.inl hf.1, hf.2⟩)) (by rw [← HS.out]; exact HO.out)
            exact ⟨by rw [HX.out]; rfl, by rw [HS.out]; exact hset.1, hset.2⟩
end Go.Proofs.YtgkiknfpcbcnnaaGreat
namespace Go.Proofs.YtgkiknfpcbcnnaaGreat
open Go.RowKit
set_option maxRecDepth 20000
set_option maxHeartbeats 4000000 in
theorem refAdd_any (g : Nat) (st : Gs) (F : Nat → Prop) (pe : Int) (tx : ByteArray) (ac : Int) (w : World) (h : RGate w g st F) (hs : tx.size ≤ 140737488351232) :
    Calls Tryz.prog 28 #[.pointer (some ⟨g, 0, none⟩), .int .i64 pe, .string tx, .int .i64 ac] w fun e w' => RPost F w g (adE st pe tx ac) (adS st pe tx ac) e w' := by
  obtain ⟨i0, hi, hz0, hz1, hz2⟩ := info_parts infoSaid
  have HR : Hid (RGate w g st F) := h
  obtain ⟨lo, lc, qs, k7, hqr, hrow0, hsd, f7, hgz⟩ := h.said
  have hql : st.rls.length = qs.length := by rw [← hqr, List.length_map]
  rw [hql] at k7 hrow0
  have h24 : qs.length ≤ 24 := by rw [← hql]; exact h.ok.l24
  have HI : Hid (SdIn w lo qs) := SdIn.of hrow0
  have HD : Hid (∀ s ∈ qs, SdOK w (fun b => F b ∧ b ≠ g) s) := hsd
  have HQ : Hid (qs.map Sd.r = st.rls) := hqr
  have HQL : Hid (st.rls.length = qs.length) := hql
  clear h hqr hsd hql hrow0
  by_cases hpe : pe < 0 ∨ 3 < pe
  · have hx : adE st pe tx ac = 6 := by unfold adE; rw [peOK_no hpe]; rfl
    have HX : Hid (adE st pe tx ac = 6) := hx
    have HS : Hid (adS st pe tx ac = st) := adS_no (by omega)
    have hg3 : decide (pe < 0) = true ∨ (decide (pe < 0) = false ∧ decide (3 < pe) = true) := by
      rcases hpe with hp | hp
      · left; simpa using hp
      · right; exact ⟨by simp; omega, by simpa using hp⟩
    clear hx hpe
    rcases hg3 with g1 | ⟨g1, g2⟩
    all_goals
      go_enter Tryz.func28, Tryz.ntmps28
      go_wp2_with fail
      refine (ref2 tx _ hs).mono ?_
      rintro e w1 ⟨hb1, ao, cap, qs0, rfl, hq0, hr⟩
      clear hq0 hr
      go_wp2_with fail
      go_ret
      exact RPost.no HR.out (hb1.alloc hb1.size _) HX HS
  · have p0 : 0 ≤ pe := by omega
    have p3 : pe ≤ 3 := by omega
    have hpeo := peOK_yes p0 p3
    have g1 : decide (pe < 0) = false := by simp; omega
    have g2 : decide (3 < pe) = false := by simp; omega
    clear hpe
    cases hdc : (decS tx).isSome
    · have hx : adE st pe tx ac = 1 := by unfold adE; rw [hpeo, hdc]; rfl
      have HX : Hid (adE st pe tx ac = 1) := hx
      have HS : Hid (adS st pe tx ac = st) := adS_no (by omega)
      have e1 := eS_no hdc
      clear hx hdc
      go_enter Tryz.func28, Tryz.ntmps28
      go_wp2_with fail
      refine (ref2 tx _ hs).mono ?_
      rintro e w1 ⟨hb1, ao, cap, qs0, rfl, hq0, hr⟩
      rw [e1]
      clear hq0 hr e1
      go_wp2_with fail
      go_ret
      exact RPost.no HR.out (hb1.alloc hb1.size _) HX HS
    · have e1 := eS_yes hdc
      by_cases hpa : ac < 1 ∨ 255 < ac
      · have hx : adE st pe tx ac = 9 := by unfold adE; rw [hpeo, hdc, paOK_no hpa]; rfl
        have HX : Hid (adE st pe tx ac = 9) := hx
        have HS : Hid (adS st pe tx ac = st) := adS_no (by omega)
        clear hx hdc
        have hg3 : decide (ac < 1) = true ∨ (decide (ac < 1) = false ∧ decide (255 < ac) = true) := by
          rcases hpa with hp | hp
          · left; simpa using hp
          · right; exact ⟨by simp; omega, by simpa using hp⟩
        clear hpa
        rcases hg3 with g3 | ⟨g3, g4⟩
        all_goals
          go_enter Tryz.func28, Tryz.ntmps28
          go_wp2_with fail
          refine (ref2 tx _ hs).mono ?_
          rintro e w1 ⟨hb1, ao, cap, qs0, rfl, hq0, hr⟩
          rw [e1]
          clear hq0 hr e1
          go_wp2_with fail
          go_ret
          exact RPost.no HR.out (hb1.alloc hb1.size _) HX HS
      have a1 : 1 ≤ ac := by omega
      have a2 : ac ≤ 255 := by omega
      have g3 : decide (ac < 1) = false := by simp; omega
      have g4 : decide (255 < ac) = false := by simp; omega
      have hE : adE st pe tx ac = if 24 ≤ (st.rls.filter (rlNe pe tx)).length then 10 else 0 := by unfold adE; rw [hpeo, hdc, paOK_yes a1 a2]; rfl
      have HE : Hid (adE st pe tx ac = if 24 ≤ (st.rls.filter (rlNe pe tx)).length then 10 else 0) := hE
      have hct : ctC tx = nS (dS tx) := by unfold ctC; rw [hdc]; rfl
      have HCT : Hid (ctC tx = nS (dS tx)) := hct
      have HY : Hid (eS tx = 0) := e1
      clear hE hpeo hdc hpa hct
      go_enter Tryz.func28, Tryz.ntmps28
      go_wp2_with fail
      refine (ref2 tx _ hs).mono ?_
      rintro e w1 ⟨hb1, ao, cap, qs0, rfl, hq0, hr⟩
      rw [e1]
      clear e1
      have HRU : Hid (RuleAt w1 w.heap.size (.slice ao (dS tx).length cap) qs0) := hr
      have HQ0 : Hid (qs0.map Prod.fst = dS tx) := hq0
      clear hq0 hr
      have hb1a := hb1.alloc hb1.size (.cells #[.slice ao (dS tx).length cap] 114)
      go_wp2_with fail
      go_loopw [11, 12] (fun v x wr => ∃ (i : Nat) (T : List Sd), x = .int .i64 i ∧ i ≤ qs.length ∧ SRow wr (w1.heap.size + 1) v T ∧ Hid (T = (qs.take i).filter (fun s => rlNe pe tx s.r)) ∧ Below (w1.alloc (.cells #[.slice ao (dS tx).length cap] 114)).heap.size (w1.alloc (.cells #[.slice ao (dS tx).length cap] 114)) wr) (fun _ x _ => qs.length - (intOf x).toNat)
      case atStart => exact ⟨0, [], rfl, Nat.zero_le _, SRow.nil _ _, rfl, Below.refl _ _⟩
      case round =>
        obtain ⟨i, T, rfl, hil, hrow, HT, hbA⟩ := hrel
        have hz1a := hb1a.size
        have hb0 : Below w.heap.size w wr := hb1a.trans (hbA.mono hz1a)
        have hzA := hbA.size
        simp only [World.size_alloc] at hzA hz1a
        obtain ⟨oo, oc, rfl⟩ := ownsRow_shape hrow
        have k7w := (hb0.cell (p := ⟨g, 7, none⟩) hgz).trans k7
        have hz := hb0.size
        have hTl : T.length ≤ 24 := by
          rw [HT.out]
          refine Nat.le_trans (List.length_filter_le _ _) ?_
          rw [List.length_take]; omega
        by_cases hlt : i < qs.length
        · obtain ⟨rk, ro, rfl, bz2, c0, c1, c2, c3, c4, c5, c6⟩ := HI.out.below hb0 i hlt
          obtain ⟨po, pn, pc, co, cn, cc, hv, hcv⟩ := (HD.out qs[i] (List.getElem_mem hlt)).shape
          have hft := sfilter_take (fun s => rlNe pe tx s.r) qs i hlt
          have HFT : Hid ((qs.take (i + 1)).filter (fun s => rlNe pe tx s.r) = (qs.take i).filter (fun s => rlNe pe tx s.r) ++ (if rlNe pe tx qs[i].r then [qs[i]] else [])) := hft
          clear hft
          generalize qs[i] = q at *
          have H1 := sdC_one hv hcv
          have HONE : Hid (∀ u ∈ sdC q, u.oneCell' = true) := H1
          have HC : Hid (sdC q = [.string q.r.tx, .int .i64 q.r.pe, .int .i64 q.r.ac, .slice po pn pc, .string q.ky, .int .i64 (nS (dS q.r.tx) : Nat), .slice co cn cc]) := by show _ = _; unfold sdC; rw [hv, hcv]
          rw [hv] at c3
          rw [hcv] at c6
          clear H1 hv hcv
          have hkeep : ¬ (q.r.pe = pe ∧ q.r.tx = tx) → Hid (T ++ [q] = (qs.take (i + 1)).filter (fun s => rlNe pe tx s.r)) := fun hne => by
            show _ = _
            rw [HFT.out, (rlNe_iff pe tx q.r).2 hne, ← HT.out]
            rfl
          have hdrop : (q.r.pe = pe ∧ q.r.tx = tx) → Hid (T = (qs.take (i + 1)).filter (fun s => rlNe pe tx s.r)) := fun he => by
            show _ = _
            have hno : rlNe pe tx q.r = false := by
              cases hh : rlNe pe tx q.r
              · rfl
              · exact absurd he ((rlNe_iff _ _ _).1 hh)
            rw [HFT.out, hno, ← HT.out]
            simp
          clear HFT HT
          by_cases e1 : q.r.pe = pe
          · by_cases e2 : q.r.tx = tx
            · have HN := hdrop ⟨e1, e2⟩
              have q1 : (q.r.pe != pe) = false := by simpa using e1
              rw [e2] at c0
              clear hkeep hdrop e1 e2 HC HONE
              go_wp2_with fail
              go_roundw
              case rel => exact ⟨i + 1, T, by go_num, by omega, hrow, HN, hbA⟩
              case measure => simp [intOf]; omega
            · have HN := hkeep (fun h => e2 h.2)
              have q1 : (q.r.pe != pe) = false := by simpa using e1
              have q2 : (q.r.tx.toList == tx.toList) = false := text_ne e2
              clear hkeep hdrop e1 e2
              go_wp2_with (at_builtin; refine wpList_append_own _ rfl _ _ 75 rfl (w1.heap.size + 1) 119 i0 _ 7 104 Tryz.underlying75 hi hz0 hz1 hz2 rfl (by decide) (.slice oo T.length oc) T.length (sdCs T) rfl (hrow.alloc _) ⟨wr.heap.size, 0, none⟩ 1 1 (sdC q) rfl rfl (by rw [HC.out]; exact World.news_of_block (heap_alloc_new wr _)) HONE.out (by unfold maxLen; omega) (by omega) (by simp; omega) ?_; intro v' w4 hown hgrow _; obtain ⟨ao', cap', rfl⟩ := ownsRow_shape hown)
              go_roundw
              case rel => exact ⟨i + 1, _, by go_num, by omega, SRow.snoc hown, HN, (hbA.alloc (by simp; omega) _).grown hgrow (by simp; omega) (fun k hk => by have := (World.ownsRow.lt hrow k hk).1; simp; omega)⟩
              case measure => simp [intOf]; omega
          · have HN := hkeep (fun h => e1 h.1)
            have q1 : (q.r.pe != pe) = true := by simpa using e1
            clear hkeep hdrop e1
            go_wp2_with (at_builtin; refine wpList_append_own _ rfl _ _ 75 rfl (w1.heap.size + 1) 119 i0 _ 7 104 Tryz.underlying75 hi hz0 hz1 hz2 rfl (by decide) (.slice oo T.length oc) T.length (sdCs T) rfl (hrow.alloc _) ⟨wr.heap.size, 0, none⟩ 1 1 (sdC q) rfl rfl (by rw [HC.out]; exact World.news_of_block (heap_alloc_new wr _)) HONE.out (by unfold maxLen; omega) (by omega) (by simp; omega) ?_; intro v' w4 hown hgrow _; obtain ⟨ao', cap', rfl⟩ := ownsRow_shape hown)
            go_roundw
            case rel => exact ⟨i + 1, _, by go_num, by omega, SRow.snoc hown, HN, (hbA.alloc (by simp; omega) _).grown hgrow (by simp; omega) (fun k hk => by have := (World.ownsRow.lt hrow k hk).1; simp; omega)⟩
            case measure => simp [intOf]; omega
        · have HTa : Hid (T.map Sd.r = st.rls.filter (rlNe pe tx)) := by show _ = _; rw [HT.out, List.take_of_length_le (by omega), sfilter_map, HQ.out]
          have HTs : Hid (∀ s ∈ T, s ∈ qs) := fun s hs => by rw [HT.out] at hs; exact List.mem_of_mem_take (List.mem_filter.1 hs).1
          have hlen : (st.rls.filter (rlNe pe tx)).length = T.length := by rw [← HTa.out, List.length_map]
          have HLE : Hid ((st.rls.filter (rlNe pe tx)).length = T.length) := hlen
          clear HT hlen
          by_cases hfull : 24 ≤ T.length
          · have hx : adE st pe tx ac = 10 := by rw [HE.out, HLE.out, if_pos hfull]
            have HX : Hid (adE st pe tx ac = 10) := hx
            have HS : Hid (adS st pe tx ac = st) := adS_no (by omega)
            have g5 : decide ((24 : Int) ≤ (T.length : Int)) = true := by simp; omega
            clear hx HE hfull HTa
            go_wp2_with fail
            go_ret
            exact RPost.no HR.out hb0 HX HS
          · have hx : adE st pe tx ac = 0 := by rw [HE.out, HLE.out, if_neg hfull]
            have HX : Hid (adE st pe tx ac = 0) := hx
            have HS : Hid (adS st pe tx ac = { st with rls := T.map Sd.r ++ [⟨tx, pe, ac⟩] }) := by show _ = _; unfold adS; rw [if_pos hx, HTa.out]
            have HO : Hid (GsOK (adS st pe tx ac)) := HR.out.ok.ad pe tx ac
            have g5 : decide ((24 : Int) ≤ (T.length : Int)) = false := by simp; omega
            have r0 : wr.cell? ⟨w1.heap.size, 0, none⟩ = some (.slice ao (dS tx).length cap) := (hbA.cell (by simp)).trans (by simp [go_sem])
            have hr1w : Below w1.heap.size w1 wr := below_first hbA
            obtain ⟨d5, dts⟩ := dS_small tx
            clear hx HE HTa hfull HLE
            go_wp2_with fail
            refine (refCount_any tx _ hs).mono ?_
            rintro e w2 ⟨rfl, hc2⟩
            rw [HCT.out, HY.out]
            have y2 := hc2.size
            have r2 := (hc2.cell (p := ⟨w1.heap.size, 0, none⟩) (by show w1.heap.size < wr.heap.size; omega)).trans r0
            go_wp2_with fail
            refine (refCubes_any tx _ hs).mono ?_
            rintro e w3 ⟨⟨cv, cs, rfl, hcr, hcl⟩, hc3⟩
            obtain ⟨co, cc, rfl⟩ := ownsRow_shape hcr
            have y3 := hc3.size
            have r3 := (hc3.cell (p := ⟨w1.heap.size, 0, none⟩) (by show w1.heap.size < w2.heap.size; omega)).trans r2
            have hr3 : Below w1.heap.size w1 w3 := hr1w.trans ((hc2.trans (hc3.mono y2)).mono (by omega))
            have hp3 := (HRU.out.reads2 HQ0.out rfl dts).below hr3
            go_wp2_with fail
            refine (key_any (dS tx) ao cap _ d5 (isP_dS tx) hp3).mono ?_
            rintro e w4 ⟨⟨K, rfl, hK, sK⟩, hc4⟩
            have y4 := hc4.size
            have r4 := (hc4.cell (p := ⟨w1.heap.size, 0, none⟩) (by show w1.heap.size < w3.heap.size; omega)).trans r3
            have hr4 : Below w1.heap.size w1 w4 := hr3.trans (hc4.mono (by omega))
            have hw4 : Below wr.heap.size wr w4 := hc2.trans ((hc3.trans (hc4.mono y3)).mono y2)
            have hb4 : Below w.heap.size w w4 := hb0.trans (hw4.mono hz)
            have hrow4 : SRow w4 (w1.heap.size + 1) (.slice oo T.length oc) T := ownsRow_below hrow hw4
            have hcr4 := (hcr.below hc4)
            clear hp3 r0 r2 r3
            go_wp2_with (at_builtin; refine wpList_append_own _ rfl _ _ 75 rfl (w1.heap.size + 1) 119 i0 _ 7 104 Tryz.underlying75 hi hz0 hz1 hz2 rfl (by decide) (.slice oo T.length oc) T.length (sdCs T) rfl (hrow4.alloc _) ⟨w4.heap.size, 0, none⟩ 1 1 (sdC ⟨⟨tx, pe, ac⟩, .slice ao (dS tx).length cap, K, .slice co cs.length cc, cs⟩) rfl rfl (World.news_of_block (heap_alloc_new w4 _)) (sdC_one rfl rfl) (by unfold maxLen; omega) (by omega) (by simp; omega) ?_; intro v' w5 hown hgrow _; obtain ⟨ao', cap', rfl⟩ := ownsRow_shape hown; have hB5 : Below w.heap.size w w5 := (hb4.alloc (by omega) _).grown hgrow (by simp; omega) (fun k hk => by have := (World.ownsRow.lt hrow4 k hk).1; omega); have c5 := (hB5.cell (p := ⟨g, 7, none⟩) hgz).trans k7; have f5 := (hB5.frozen (p := ⟨g, 7, none⟩) hgz).trans f7)
            go_ret
            have hz5 := hgrow.size
            simp only [World.size_alloc] at hz5
            have h15 : Below w1.heap.size w1 w5 := (hr4.alloc (by omega) _).grown hgrow (by simp; omega) (fun k hk => by have := (World.ownsRow.lt hrow4 k hk).1; omega)
            have hru5 := (HRU.out.below h15).base (Nat.zero_le _)
            have hcr5 : StrRow w5 w2.heap.size (.slice co cs.length cc) cs := World.ownsRow.kept (hcr4.below (below_alloc w4 _)) hgrow (owns_apart hcr4 hrow4 (by decide))
            have hnew : SdOK w5 (fun b => (F b ∨ (w.heap.size ≤ b ∧ b < w5.heap.size)) ∧ b ≠ g) ⟨⟨tx, pe, ac⟩, .slice ao (dS tx).length cap, K, .slice co cs.length cc, cs⟩ := by
              refine ⟨⟨ao, cap, qs0, rfl, HQ0.out, hru5, ?_, ?_⟩, hK, hcr5.base (Nat.zero_le _), hcl, ?_⟩
              · intro b hbk
                have := HRU.out.parts.lt b hbk
                exact ⟨.inr ⟨this.1, by omega⟩, by omega⟩
              · intro q hq b hbk
                have := (HRU.out.terms q hq).lt b hbk
                exact ⟨.inr ⟨this.1, by omega⟩, by omega⟩
              · intro b hbk
                have := World.ownsRow.lt hcr5 b hbk
                exact ⟨.inr ⟨by omega, this.2⟩, by omega⟩
            have hmap : (T ++ [(⟨⟨tx, pe, ac⟩, .slice ao (dS tx).length cap, K, .slice co cs.length cc, cs⟩ : Sd)]).map Sd.r = T.map Sd.r ++ [⟨tx, pe, ac⟩] := by rw [List.map_append]; rfl
            have hset := HR.out.setL hB5 (ownsRow_base (SRow.snoc hown) (by omega)) (fun s hs => by
              rw [List.mem_append, List.mem_singleton] at hs
              rcases hs with hs | rfl
              · exact ((HD.out s (HTs.out s hs)).same (fun b hf => hB5.block b (HR.out.lt b hf.1))).mono (fun b hf => ⟨.inl hf.1, hf.2⟩)
              · exact hnew) (by rw [hmap, ← HS.out]; exact HO.out)
            rw [hmap] at hset
            exact ⟨by rw [HX.out]; rfl, by rw [HS.out]; exact hset.1, hset.2⟩
end Go.Proofs.YtgkiknfpcbcnnaaGreat
