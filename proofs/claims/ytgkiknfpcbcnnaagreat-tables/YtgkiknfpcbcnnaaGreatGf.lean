import Derived.Test.YtgkiknfpcbcnnaaGreatGe
set_option linter.unusedSimpArgs false
namespace Go.Proofs.YtgkiknfpcbcnnaaGreat
open Go.RowKit
set_option maxRecDepth 20000
set_option maxHeartbeats 6400000 in
theorem written_terms (k : Int) (ts : List Tm) (ao : Option Addr) (cap : Nat) (w : World) (k1 : 3 ≤ k) (k2 : k ≤ 5) (hlen : ts.length ≤ 8) (hall : allT k true ts = true) (ht : TermsIn w ao ts) :
    Calls Tryz.prog 79 #[.agg #[.int .i64 k, .int .i64 0, .int .i64 0, .slice ao ts.length cap]] w fun e w' => e = .returned (.string (ch k ++ wTerms ts)) ∧ Below w.heap.size w w' := by
  obtain ⟨i0, hi, hz0, hz1, hz2⟩ := info_parts infoByte
  have ek : k % 256 = k := by omega
  have hW0 : BW (w.alloc (.cells #[.int .i64 k, .int .i64 0, .int .i64 0, .slice ao ts.length cap] 140)) ((w.alloc (.cells #[.int .i64 k, .int .i64 0, .int .i64 0, .slice ao ts.length cap] 140)).alloc (.cells #[.int .u8 k] 5)) (.slice (some ⟨w.heap.size + 1, 0, none⟩) 1 1) (ch k) :=
    ⟨below_alloc _ _, by have := owns_one (w.alloc (.cells #[.int .i64 k, .int .i64 0, .int .i64 0, .slice ao ts.length cap] 140)) (w.alloc (.cells #[.int .i64 k, .int .i64 0, .int .i64 0, .slice ao ts.length cap] 140)).heap.size k (by omega) (by omega) (Nat.le_refl _); simpa using this⟩
  go_enter Tryz.func79, Tryz.ntmps79
  go_wp2
  go_loopw [3, 4] (fun v i wr => ∃ (j : Nat) (X : ByteArray), i = .int .i64 j ∧ j ≤ ts.length ∧ X.size ≤ 1 + 3 * j ∧ BW (w.alloc (.cells #[.int .i64 k, .int .i64 0, .int .i64 0, .slice ao ts.length cap] 140)) wr v X ∧ Hid (X ++ wTerms (ts.drop j) = ch k ++ wTerms ts)) (fun _ i _ => ts.length - (intOf i).toNat)
  case atStart => exact ⟨0, ch k, rfl, Nat.zero_le _, by rw [ch_size]; omega, hW0, rfl⟩
  case round =>
    obtain ⟨j, X, rfl, hj, hX, hW, H⟩ := hrel
    clear hW0
    obtain ⟨a0, a1, a2, a3, af, az⟩ := cells_of_below hW.gr
    have hb0 := below_first hW.gr
    by_cases hlt : j < ts.length
    · obtain ⟨b, off, rfl, c0, c1, c2, c3⟩ := ht.below hb0 j hlt
      have hd : ts.drop j = ts[j] :: ts.drop (j + 1) := List.drop_eq_getElem_cons hlt
      have hT := isT_bd _ _ (allT_get _ _ _ hall j hlt)
      have hlast : ((j : Int) == (ts.length : Int) - 1) = (ts.drop (j + 1)).isEmpty := by
        cases hv : (ts.drop (j + 1)) with
        | nil => have := congrArg List.length hv; simp at this ⊢; omega
        | cons a l => have := congrArg List.length hv; simp at this ⊢; omega
      rw [hd] at H
      clear hd ht hall
      generalize ts[j] = t at *
      have hsz := wTerm_size t (ts.drop (j + 1)).isEmpty
      have HN : Hid ((X ++ wTerm t (ts.drop (j + 1)).isEmpty) ++ wTerms (ts.drop (j + 1)) = ch k ++ wTerms ts) := by
        show _ = _
        rw [← H.out, app_assoc]; rfl
      clear H
      generalize (ts.drop (j + 1)).isEmpty = last at *
      obtain ⟨an, wd, op, vl⟩ := t
      dsimp only at *
      obtain ⟨t0, t1, t2, t3⟩ := hT
      cases wd
      · simp only [mxV, Bool.false_eq_true, if_false] at t3
        cases an
        · cases last
          · have m1 : (op) % 256 = op := by omega
            have m2 : vl % 256 = vl := by omega
            go_wp2_with (at_builtin; refine wpList_append_own _ rfl (.tmp 89) (.tmp 95) 146 rfl _ 5 i0 _ 1 1 Tryz.underlying146 hi hz0 hz1 hz2 rfl (by decide) _ _ _ rfl ((hW.own.alloc _).alloc _) ⟨wr.heap.size + 1, 0, none⟩ 2 2 [.int .u8 _, .int .u8 _] rfl rfl (cell_two_new' _ _ _ _ _ (by simp)) (int_two _ _ _) (by unfold maxLen; omega) (by omega) (by have := hW.gr.size; simp at this ⊢; omega) ?_; intro v1 w1 ho1 hg1 _)
            have hW1 := (hW.alloc _).app hg1 ho1 (Y := ch (op) ++ ch vl) (bv_two (op) vl (by omega) (by omega) (by omega) (by omega)).symm
            have hY : ch (op) ++ ch vl = wTerm ⟨false, false, op, vl⟩ false := by
              have e : mk (⟨false, false, op, vl⟩ : Tm) false = op := by show op + _ + _ + _ = _; simp only [b2, if_true, Bool.false_eq_true, if_false]; omega
              show _ = ch (mk (⟨false, false, op, vl⟩ : Tm) false) ++ _
              rw [e]; rfl
            rw [hY] at hW1
            clear ho1 hg1 hY
            go_roundw
            case rel => exact ⟨j + 1, _, by go_num, by omega, by rw [ByteArray.size_append]; omega, hW1, HN⟩
            case measure => simp [intOf]; omega
          · have m1 : (op + 128) % 256 = op + 128 := by omega
            have m2 : vl % 256 = vl := by omega
            go_wp2_with (at_builtin; refine wpList_append_own _ rfl (.tmp 89) (.tmp 95) 146 rfl _ 5 i0 _ 1 1 Tryz.underlying146 hi hz0 hz1 hz2 rfl (by decide) _ _ _ rfl ((hW.own.alloc _).alloc _) ⟨wr.heap.size + 1, 0, none⟩ 2 2 [.int .u8 _, .int .u8 _] rfl rfl (cell_two_new' _ _ _ _ _ (by simp)) (int_two _ _ _) (by unfold maxLen; omega) (by omega) (by have := hW.gr.size; simp at this ⊢; omega) ?_; intro v1 w1 ho1 hg1 _)
            have hW1 := (hW.alloc _).app hg1 ho1 (Y := ch (op + 128) ++ ch vl) (bv_two (op + 128) vl (by omega) (by omega) (by omega) (by omega)).symm
            have hY : ch (op + 128) ++ ch vl = wTerm ⟨false, false, op, vl⟩ true := by
              have e : mk (⟨false, false, op, vl⟩ : Tm) true = op + 128 := by show op + _ + _ + _ = _; simp only [b2, if_true, Bool.false_eq_true, if_false]; omega
              show _ = ch (mk (⟨false, false, op, vl⟩ : Tm) true) ++ _
              rw [e]; rfl
            rw [hY] at hW1
            clear ho1 hg1 hY
            go_roundw
            case rel => exact ⟨j + 1, _, by go_num, by omega, by rw [ByteArray.size_append]; omega, hW1, HN⟩
            case measure => simp [intOf]; omega
        · cases last
          · have m1 : (op + 64) % 256 = op + 64 := by omega
            have m2 : vl % 256 = vl := by omega
            go_wp2_with (at_builtin; refine wpList_append_own _ rfl (.tmp 89) (.tmp 95) 146 rfl _ 5 i0 _ 1 1 Tryz.underlying146 hi hz0 hz1 hz2 rfl (by decide) _ _ _ rfl ((hW.own.alloc _).alloc _) ⟨wr.heap.size + 1, 0, none⟩ 2 2 [.int .u8 _, .int .u8 _] rfl rfl (cell_two_new' _ _ _ _ _ (by simp)) (int_two _ _ _) (by unfold maxLen; omega) (by omega) (by have := hW.gr.size; simp at this ⊢; omega) ?_; intro v1 w1 ho1 hg1 _)
            have hW1 := (hW.alloc _).app hg1 ho1 (Y := ch (op + 64) ++ ch vl) (bv_two (op + 64) vl (by omega) (by omega) (by omega) (by omega)).symm
            have hY : ch (op + 64) ++ ch vl = wTerm ⟨true, false, op, vl⟩ false := by
              have e : mk (⟨true, false, op, vl⟩ : Tm) false = op + 64 := by show op + _ + _ + _ = _; simp only [b2, if_true, Bool.false_eq_true, if_false]; omega
              show _ = ch (mk (⟨true, false, op, vl⟩ : Tm) false) ++ _
              rw [e]; rfl
            rw [hY] at hW1
            clear ho1 hg1 hY
            go_roundw
            case rel => exact ⟨j + 1, _, by go_num, by omega, by rw [ByteArray.size_append]; omega, hW1, HN⟩
            case measure => simp [intOf]; omega
          · have m1 : (op + 128 + 64) % 256 = op + 128 + 64 := by omega
            have m2 : vl % 256 = vl := by omega
            go_wp2_with (at_builtin; refine wpList_append_own _ rfl (.tmp 89) (.tmp 95) 146 rfl _ 5 i0 _ 1 1 Tryz.underlying146 hi hz0 hz1 hz2 rfl (by decide) _ _ _ rfl ((hW.own.alloc _).alloc _) ⟨wr.heap.size + 1, 0, none⟩ 2 2 [.int .u8 _, .int .u8 _] rfl rfl (cell_two_new' _ _ _ _ _ (by simp)) (int_two _ _ _) (by unfold maxLen; omega) (by omega) (by have := hW.gr.size; simp at this ⊢; omega) ?_; intro v1 w1 ho1 hg1 _)
            have hW1 := (hW.alloc _).app hg1 ho1 (Y := ch (op + 128 + 64) ++ ch vl) (bv_two (op + 128 + 64) vl (by omega) (by omega) (by omega) (by omega)).symm
            have hY : ch (op + 128 + 64) ++ ch vl = wTerm ⟨true, false, op, vl⟩ true := by
              have e : mk (⟨true, false, op, vl⟩ : Tm) true = op + 128 + 64 := by show op + _ + _ + _ = _; simp only [b2, if_true, Bool.false_eq_true, if_false]; omega
              show _ = ch (mk (⟨true, false, op, vl⟩ : Tm) true) ++ _
              rw [e]; rfl
            rw [hY] at hW1
            clear ho1 hg1 hY
            go_roundw
            case rel => exact ⟨j + 1, _, by go_num, by omega, by rw [ByteArray.size_append]; omega, hW1, HN⟩
            case measure => simp [intOf]; omega
      · simp only [mxV, if_true] at t3
        cases an
        · cases last
          · have m1 : (op + 16) % 256 = op + 16 := by omega
            have m2 : vl / 256 % 256 = vl / 256 := by omega
            have m3 : vl % 256 % 256 = vl % 256 := by omega
            go_wp2_with (at_builtin; refine wpList_append_own _ rfl (.tmp 75) (.tmp 87) 146 rfl _ 5 i0 _ 1 1 Tryz.underlying146 hi hz0 hz1 hz2 rfl (by decide) _ _ _ rfl ((hW.own.alloc _).alloc _) ⟨wr.heap.size + 1, 0, none⟩ 3 3 [.int .u8 _, .int .u8 _, .int .u8 _] rfl rfl (cell_three_new' _ _ _ _ _ _ (by simp)) (int_three _ _ _ _) (by unfold maxLen; omega) (by omega) (by have := hW.gr.size; simp at this ⊢; omega) ?_; intro v1 w1 ho1 hg1 _)
            have hW1 := (hW.alloc _).app hg1 ho1 (Y := ch (op + 16) ++ (ch (vl / 256) ++ ch (vl % 256))) (bv_three (op + 16) (vl / 256) (vl % 256) (by omega) (by omega) (by omega) (by omega) (by omega) (by omega)).symm
            have hY : ch (op + 16) ++ (ch (vl / 256) ++ ch (vl % 256)) = wTerm ⟨false, true, op, vl⟩ false := by
              have e : mk (⟨false, true, op, vl⟩ : Tm) false = op + 16 := by show op + _ + _ + _ = _; simp only [b2, if_true, Bool.false_eq_true, if_false]; omega
              show _ = ch (mk (⟨false, true, op, vl⟩ : Tm) false) ++ _
              rw [e]; rfl
            rw [hY] at hW1
            clear ho1 hg1 hY
            go_roundw
            case rel => exact ⟨j + 1, _, by go_num, by omega, by rw [ByteArray.size_append]; omega, hW1, HN⟩
            case measure => simp [intOf]; omega
          · have m1 : (op + 128 + 16) % 256 = op + 128 + 16 := by omega
            have m2 : vl / 256 % 256 = vl / 256 := by omega
            have m3 : vl % 256 % 256 = vl % 256 := by omega
            go_wp2_with (at_builtin; refine wpList_append_own _ rfl (.tmp 75) (.tmp 87) 146 rfl _ 5 i0 _ 1 1 Tryz.underlying146 hi hz0 hz1 hz2 rfl (by decide) _ _ _ rfl ((hW.own.alloc _).alloc _) ⟨wr.heap.size + 1, 0, none⟩ 3 3 [.int .u8 _, .int .u8 _, .int .u8 _] rfl rfl (cell_three_new' _ _ _ _ _ _ (by simp)) (int_three _ _ _ _) (by unfold maxLen; omega) (by omega) (by have := hW.gr.size; simp at this ⊢; omega) ?_; intro v1 w1 ho1 hg1 _)
            have hW1 := (hW.alloc _).app hg1 ho1 (Y := ch (op + 128 + 16) ++ (ch (vl / 256) ++ ch (vl % 256))) (bv_three (op + 128 + 16) (vl / 256) (vl % 256) (by omega) (by omega) (by omega) (by omega) (by omega) (by omega)).symm
            have hY : ch (op + 128 + 16) ++ (ch (vl / 256) ++ ch (vl % 256)) = wTerm ⟨false, true, op, vl⟩ true := by
              have e : mk (⟨false, true, op, vl⟩ : Tm) true = op + 128 + 16 := by show op + _ + _ + _ = _; simp only [b2, if_true, Bool.false_eq_true, if_false]; omega
              show _ = ch (mk (⟨false, true, op, vl⟩ : Tm) true) ++ _
              rw [e]; rfl
            rw [hY] at hW1
            clear ho1 hg1 hY
            go_roundw
            case rel => exact ⟨j + 1, _, by go_num, by omega, by rw [ByteArray.size_append]; omega, hW1, HN⟩
            case measure => simp [intOf]; omega
        · cases last
          · have m1 : (op + 64 + 16) % 256 = op + 64 + 16 := by omega
            have m2 : vl / 256 % 256 = vl / 256 := by omega
            have m3 : vl % 256 % 256 = vl % 256 := by omega
            go_wp2_with (at_builtin; refine wpList_append_own _ rfl (.tmp 75) (.tmp 87) 146 rfl _ 5 i0 _ 1 1 Tryz.underlying146 hi hz0 hz1 hz2 rfl (by decide) _ _ _ rfl ((hW.own.alloc _).alloc _) ⟨wr.heap.size + 1, 0, none⟩ 3 3 [.int .u8 _, .int .u8 _, .int .u8 _] rfl rfl (cell_three_new' _ _ _ _ _ _ (by simp)) (int_three _ _ _ _) (by unfold maxLen; omega) (by omega) (by have := hW.gr.size; simp at this ⊢; omega) ?_; intro v1 w1 ho1 hg1 _)
            have hW1 := (hW.alloc _).app hg1 ho1 (Y := ch (op + 64 + 16) ++ (ch (vl / 256) ++ ch (vl % 256))) (bv_three (op + 64 + 16) (vl / 256) (vl % 256) (by omega) (by omega) (by omega) (by omega) (by omega) (by omega)).symm
            have hY : ch (op + 64 + 16) ++ (ch (vl / 256) ++ ch (vl % 256)) = wTerm ⟨true, true, op, vl⟩ false := by
              have e : mk (⟨true, true, op, vl⟩ : Tm) false = op + 64 + 16 := by show op + _ + _ + _ = _; simp only [b2, if_true, Bool.false_eq_true, if_false]; omega
              show _ = ch (mk (⟨true, true, op, vl⟩ : Tm) false) ++ _
              rw [e]; rfl
            rw [hY] at hW1
            clear ho1 hg1 hY
            go_roundw
            case rel => exact ⟨j + 1, _, by go_num, by omega, by rw [ByteArray.size_append]; omega, hW1, HN⟩
            case measure => simp [intOf]; omega
          · have m1 : (op + 128 + 64 + 16) % 256 = op + 128 + 64 + 16 := by omega
            have m2 : vl / 256 % 256 = vl / 256 := by omega
            have m3 : vl % 256 % 256 = vl % 256 := by omega
            go_wp2_with (at_builtin; refine wpList_append_own _ rfl (.tmp 75) (.tmp 87) 146 rfl _ 5 i0 _ 1 1 Tryz.underlying146 hi hz0 hz1 hz2 rfl (by decide) _ _ _ rfl ((hW.own.alloc _).alloc _) ⟨wr.heap.size + 1, 0, none⟩ 3 3 [.int .u8 _, .int .u8 _, .int .u8 _] rfl rfl (cell_three_new' _ _ _ _ _ _ (by simp)) (int_three _ _ _ _) (by unfold maxLen; omega) (by omega) (by have := hW.gr.size; simp at this ⊢; omega) ?_; intro v1 w1 ho1 hg1 _)
            have hW1 := (hW.alloc _).app hg1 ho1 (Y := ch (op + 128 + 64 + 16) ++ (ch (vl / 256) ++ ch (vl % 256))) (bv_three (op + 128 + 64 + 16) (vl / 256) (vl % 256) (by omega) (by omega) (by omega) (by omega) (by omega) (by omega)).symm
            have hY : ch (op + 128 + 64 + 16) ++ (ch (vl / 256) ++ ch (vl % 256)) = wTerm ⟨true, true, op, vl⟩ true := by
              have e : mk (⟨true, true, op, vl⟩ : Tm) true = op + 128 + 64 + 16 := by show op + _ + _ + _ = _; simp only [b2, if_true, Bool.false_eq_true, if_false]; omega
              show _ = ch (mk (⟨true, true, op, vl⟩ : Tm) true) ++ _
              rw [e]; rfl
            rw [hY] at hW1
            clear ho1 hg1 hY
            go_roundw
            case rel => exact ⟨j + 1, _, by go_num, by omega, by rw [ByteArray.size_append]; omega, hW1, HN⟩
            case measure => simp [intOf]; omega
    · have HN : Hid (ch k ++ wTerms ts = X) := by show _ = _; rw [← H.out, List.drop_of_length_le (by omega)]; exact app_nil _
      have hX' : 0 < X.size := by rw [← HN.out, ByteArray.size_append, ch_size]; omega
      have hcv := conv_own hW.own hX'
      clear H ht hall
      go_wp2
      go_ret
      exact ⟨by rw [HN.out]; rfl, hb0⟩
theorem written_any (p : Pt) (ao : Option Addr) (cap : Nat) (w : World) (hp : isP p = true) (ht : TermsIn w ao p.ts) :
    Calls Tryz.prog 79 #[.agg #[.int .i64 p.ty, .int .i64 p.bt, .int .i64 p.ln, .slice ao p.ts.length cap]] w fun e w' => e = .returned (.string (wPart p)) ∧ Below w.heap.size w w' := by
  unfold wPart
  cases hk : hasP p.ty
  · obtain ⟨h1, h2, h3, h4, h5, h6⟩ := isP_terms hp hk
    have := hasT_bd h1
    rw [h2, h3]
    exact written_terms p.ty p.ts ao cap w (by omega) (by omega) h5 h6 ht
  · obtain ⟨h1, h2⟩ := isP_pref hp hk
    have := hasP_bd hk
    exact written_pref p ao cap w (by omega) (by omega) h2
end Go.Proofs.YtgkiknfpcbcnnaaGreat
namespace Go.Proofs.YtgkiknfpcbcnnaaGreat
open Go.RowKit
set_option maxRecDepth 20000
structure ESt (ps : List Pt) (j : Nat) (acc : ByteArray) (b : Int) : Prop where
  le : j ≤ ps.length
  size : acc.size ≤ 25 * j
  low : (j : Int) ≤ b
  high : b ≤ 5
  zero : j = 0 → b = 0
  last : ∀ i (h : i < ps.length), i + 1 = j → b = ps[i].ty
  text : acc ++ wParts (ps.drop j) = wParts ps
  rest : allP 0 ps = allP b (ps.drop j)
theorem ESt.start (ps : List Pt) : ESt ps 0 ⟨#[]⟩ 0 := ⟨Nat.zero_le _, Nat.le_refl _, by omega, by omega, fun _ => rfl, fun i _ h => by omega, nil_app _, rfl⟩
theorem ESt.fail {ps : List Pt} {j : Nat} {acc : ByteArray} {b : Int} (h : ESt ps j acc b) (hlt : j < ps.length) (hf : isP ps[j] = false ∨ ps[j].ty ≤ b) : isR ps = false := by
  unfold isR
  rw [h.rest, List.drop_eq_getElem_cons hlt]
  rcases hf with hf | hf
  · simp [allP, hf]
  · simp [allP]; omega
theorem ESt.step {ps : List Pt} {j : Nat} {acc : ByteArray} {b : Int} (h : ESt ps j acc b) (hlt : j < ps.length) (hP : isP ps[j] = true) (hb : b < ps[j].ty) : ESt ps (j + 1) (acc ++ wPart ps[j]) ps[j].ty := by
  have h1 := isP_ty hP
  have h2 := wPart_size hP
  have := h.size
  have := h.low
  have hl : ∀ i (hi : i < ps.length), i + 1 = j + 1 → ps[j].ty = ps[i].ty := by
    intro i hi e
    have e' : i = j := by omega
    subst e'
    rfl
  refine ⟨hlt, by rw [ByteArray.size_append]; omega, by omega, h1.2, fun e => by omega, hl, ?_, ?_⟩
  · rw [← h.text, List.drop_eq_getElem_cons hlt, app_assoc]; rfl
  · rw [h.rest, List.drop_eq_getElem_cons hlt]; simp [allP, hP, hb]
theorem ESt.done {ps : List Pt} {j : Nat} {acc : ByteArray} {b : Int} (h : ESt ps j acc b) (hge : ¬ j < ps.length) : wParts ps = acc ∧ isR ps = decide (0 < ps.length) := by
  have e : ps.drop j = [] := List.drop_of_length_le (by omega)
  constructor
  · rw [← h.text, e]; exact app_nil _
  · unfold isR; rw [h.rest, e]; simp [allP]
def encR (ps : List Pt) : Value := if isR ps then .tuple #[.string (wParts ps), .int .i64 0] else .tuple #[.string ⟨#[]⟩, .int .i64 2]
set_option maxHeartbeats 3200000 in
theorem refEncode_any (ps : List Pt) (ao : Option Addr) (cap : Nat) (w : World) (hlen : ps.length ≤ 140737488351232) (hp : PartsIn w ao ps) :
    Calls Tryz.prog 76 #[.agg #[.slice ao ps.length cap]] w fun e w' => e = .returned (encR ps) ∧ Below w.heap.size w w' := by
  go_enter Tryz.func76, Tryz.ntmps76
  go_wp2
  go_loopw [4, 5] (fun s i wr => ∃ (j : Nat) (acc : ByteArray) (b : Int), i = .int .i64 j ∧ s = .string acc ∧ Below (w.heap.size + 1) (w.alloc (.cells #[.slice ao ps.length cap] 114)) wr ∧ ESt ps j acc b) (fun _ i _ => ps.length - (intOf i).toNat)
  case atStart => exact ⟨0, _, 0, rfl, rfl, Below.refl _ _, ESt.start ps⟩
  case round =>
    obtain ⟨j, acc, b, rfl, rfl, hbel, hst⟩ := hrel
    have hb0 := below_first' hbel
    have hz := hbel.size
    simp only [World.size_alloc] at hz
    have k0 : wr.cell? ⟨w.heap.size, 0, none⟩ = some (.slice ao ps.length cap) := (hbel.cell (by simp)).trans (by simp [go_sem])
    have hj := hst.le
    by_cases hlt : j < ps.length
    · obtain ⟨bl, off, tao, tcap, rfl, c0, c1, c2, c3, hl, ht⟩ := hp.below hb0 j hlt
      have hlb : bl < wr.heap.size := World.block_lt_of_cell? wr _ c0
      have hfail : isP ps[j] = false ∨ ps[j].ty ≤ b → Hid (isR ps = false) := fun h => hst.fail hlt h
      have hstep : isP ps[j] = true → b < ps[j].ty → Hid (ESt ps (j + 1) (acc ++ wPart ps[j]) ps[j].ty) := fun h h' => hst.step hlt h h'
      have hprev : 0 < j → wr.cell? ⟨bl, off + (j - 1) * 4, none⟩ = some (.int .i64 b) := by
        intro hj0
        obtain ⟨bl', off', _, _, e, c0', _⟩ := hp.below hb0 (j - 1) (by omega)
        simp only [Option.some.injEq, Addr.mk.injEq] at e
        obtain ⟨rfl, rfl, _⟩ := e
        rw [c0', hst.last (j - 1) (by omega) (by omega)]
      have hacc := hst.size
      have hlow := hst.low
      have hhigh := hst.high
      have hzero := hst.zero
      clear hp hst
      generalize ps[j] = p at *
      cases hP : isP p
      · have HF := hfail (.inl hP)
        clear hfail hstep hprev hzero
        go_wp2_with (go_at_call 98; refine (partOK_any _ _ _ _ ht).mono ?_; rintro e w1 ⟨rfl, hb1⟩; obtain ⟨hcc, hff⟩ := bcell hb1)
        go_quiet (fail)
        go_wp2
        go_ret2
        refine ⟨?_, below_drewN (hb0.trans (hb1.mono (by omega))) _⟩
        unfold encR; rw [HF.out]; rfl
      · have hzz : w.heap.size < wr.heap.size := by omega
        have hsz := wPart_size hP
        by_cases hj0 : j = 0
        · have hb : b < p.ty := by have := isP_ty hP; have := hzero hj0; omega
          have HS := hstep hP hb
          have d0 : decide (0 < j) = false := by simp; omega
          clear hfail hstep hprev hzero hj0
          go_wp2_with (go_at_call 98; refine (partOK_any _ _ _ _ ht).mono ?_; rintro e w1 ⟨rfl, hb1⟩; obtain ⟨hcc, hff⟩ := bcell hb1)
          go_quiet (fail)
          go_wp2_with (go_at_call 79; refine (written_any _ _ _ _ hP (by exact (ht.below hb1).below (below_drewN (Below.refl _ _) _))).mono ?_; rintro e w2 ⟨rfl, hb2⟩)
          go_roundw
          case rel => exact ⟨j + 1, _, p.ty, by go_num, rfl, (below_drewN (hbel.trans (hb1.mono (by omega))) _).trans (hb2.mono (by have := hb1.size; show _ ≤ w1.heap.size; omega)), HS.out⟩
          case measure => simp [intOf]; omega
        · have d0 : decide (0 < j) = true := by simp; omega
          have cp := hprev (by omega)
          have j1 : (1 : Int) ≤ j := by omega
          by_cases hb : p.ty ≤ b
          · have HF := hfail (.inr hb)
            have d1 : decide (p.ty ≤ b) = true := by simpa using hb
            clear hfail hstep hprev hzero
            go_wp2_with (go_at_call 98; refine (partOK_any _ _ _ _ ht).mono ?_; rintro e w1 ⟨rfl, hb1⟩; obtain ⟨hcc, hff⟩ := bcell hb1)
            go_quiet (fail)
            go_wp2
            go_ret2
            refine ⟨?_, below_drewN (hb0.trans (hb1.mono (by omega))) _⟩
            unfold encR; rw [HF.out]; rfl
          · have HS := hstep hP (by omega)
            have d1 : decide (p.ty ≤ b) = false := by simpa using hb
            clear hfail hstep hprev hzero
            go_wp2_with (go_at_call 98; refine (partOK_any _ _ _ _ ht).mono ?_; rintro e w1 ⟨rfl, hb1⟩; obtain ⟨hcc, hff⟩ := bcell hb1)
            go_quiet (fail)
            go_wp2_with (go_at_call 79; refine (written_any _ _ _ _ hP (by exact (ht.below hb1).below (below_drewN (Below.refl _ _) _))).mono ?_; rintro e w2 ⟨rfl, hb2⟩)
            go_roundw
            case rel => exact ⟨j + 1, _, p.ty, by go_num, rfl, (below_drewN (hbel.trans (hb1.mono (by omega))) _).trans (hb2.mono (by have := hb1.size; show _ ≤ w1.heap.size; omega)), HS.out⟩
            case measure => simp [intOf]; omega
    · obtain ⟨e1, e2⟩ := hst.done hlt
      have HE : Hid (wParts ps = acc) := e1
      have HR : Hid (isR ps = decide (0 < ps.length)) := e2
      clear hp hst e1 e2
      by_cases h0 : ps.length = 0
      · have d0 : ((ps.length : Int) == 0) = true := by simp; exact List.length_eq_zero_iff.1 h0
        have HF : Hid (isR ps = false) := by show isR ps = _; rw [HR.out, h0]; rfl
        clear h0 HR
        go_wp2
        go_ret2
        refine ⟨?_, hb0⟩
        unfold encR; rw [HF.out]; rfl
      · have d0 : ((ps.length : Int) == 0) = false := by simp; intro h; exact h0 (by rw [h]; rfl)
        have HF : Hid (isR ps = true) := by show isR ps = _; rw [HR.out]; simp; omega
        clear h0 HR
        go_wp2
        go_ret2
        refine ⟨?_, hb0⟩
        unfold encR; rw [HF.out, HE.out]; rfl
end Go.Proofs.YtgkiknfpcbcnnaaGreat
namespace Go.Proofs.YtgkiknfpcbcnnaaGreat
open Go.RowKit
set_option maxRecDepth 20000
end Go.Proofs.YtgkiknfpcbcnnaaGreat
