import Derived.Test.YtkdcjcemeipkjaaRef3
set_option linter.unusedSimpArgs false
namespace Go.Proofs.Ytkdcjcemeipkjaa
open Go.RowKit
set_option maxRecDepth 20000

set_option maxHeartbeats 6400000 in
theorem written_terms (k : Int) (ts : List Tm) (ao : Option Addr) (cap : Nat) (w : World) (k1 : 3 ≤ k) (k2 : k ≤ 5) (hlen : ts.length ≤ 8) (hall : allT k true ts = true) (ht : TermsIn w ao ts) :
    Calls Try.prog 32 #[.agg #[.int .i64 k, .int .i64 0, .int .i64 0, .slice ao ts.length cap]] w fun e w' => e = .returned (.string (ch k ++ wTerms ts)) ∧ Below w.heap.size w w' := by
  obtain ⟨i0, hi, hz0, hz1, hz2⟩ := info_parts infoByte
  have ek : k % 256 = k := by omega
  have hW0 : BW (w.alloc (.cells #[.int .i64 k, .int .i64 0, .int .i64 0, .slice ao ts.length cap] 35)) ((w.alloc (.cells #[.int .i64 k, .int .i64 0, .int .i64 0, .slice ao ts.length cap] 35)).alloc (.cells #[.int .u8 k] 5)) (.slice (some ⟨w.heap.size + 1, 0, none⟩) 1 1) (ch k) :=
    ⟨below_alloc _ _, by have := owns_one (w.alloc (.cells #[.int .i64 k, .int .i64 0, .int .i64 0, .slice ao ts.length cap] 35)) (w.alloc (.cells #[.int .i64 k, .int .i64 0, .int .i64 0, .slice ao ts.length cap] 35)).heap.size k (by omega) (by omega) (Nat.le_refl _); simpa using this⟩
  go_enter Try.func32, Try.ntmps32
  go_wp2
  go_loopw [3, 4] (fun v i wr => ∃ (j : Nat) (X : ByteArray), i = .int .i64 j ∧ j ≤ ts.length ∧ X.size ≤ 1 + 3 * j ∧ BW (w.alloc (.cells #[.int .i64 k, .int .i64 0, .int .i64 0, .slice ao ts.length cap] 35)) wr v X ∧ Hid (X ++ wTerms (ts.drop j) = ch k ++ wTerms ts)) (fun _ i _ => ts.length - (intOf i).toNat)
  case atStart => exact ⟨0, ch k, rfl, Nat.zero_le _, by rw [ch_size]; omega, hW0, rfl⟩
  case round =>
    obtain ⟨j, X, rfl, hj, hX, hW, H⟩ := hrel
    clear hW0
    obtain ⟨a0, a1, a2, a3, af, az⟩ := cells_of_below hW.gr
    have hb0 := below_first hW.gr
    by_cases hlt : j < ts.length
    · obtain ⟨b, off, rfl, c0, c1, c2, c3⟩ := ht.below hb0 j hlt
      have hd : ts.drop j = ts[j] :: ts.drop (j + 1) := List.drop_eq_getElem_cons hlt
      have hT := isT_bd _ _ (allT_get _ _ _ hall j hlt)
      have hlast : ((j : Int) == (ts.length : Int) - 1) = (ts.drop (j + 1)).isEmpty := by
        cases hv : (ts.drop (j + 1)) with
        | nil => have := congrArg List.length hv; simp at this ⊢; omega
        | cons a l => have := congrArg List.length hv; simp at this ⊢; omega
      rw [hd] at H
      clear hd ht hall
      generalize ts[j] = t at *
      have hsz := wTerm_size t (ts.drop (j + 1)).isEmpty
      have HN : Hid ((X ++ wTerm t (ts.drop (j + 1)).isEmpty) ++ wTerms (ts.drop (j + 1)) = ch k ++ wTerms ts) := by
        show _ = _
        rw [← H.out, app_assoc]; rfl
      clear H
      generalize (ts.drop (j + 1)).isEmpty = last at *
      obtain ⟨an, wd, op, vl⟩ := t
      dsimp only at *
      obtain ⟨t0, t1, t2, t3⟩ := hT
      cases wd
      · simp only [mxV, Bool.false_eq_true, if_false] at t3
        cases an
        · cases last
          · have m1 : (op) % 256 = op := by omega
            have m2 : vl % 256 = vl := by omega
            go_wp2_with (at_builtin; refine wpList_append_own _ rfl (.tmp 89) (.tmp 95) 90 rfl _ 5 i0 _ 1 1 Try.underlying90 hi hz0 hz1 hz2 rfl (by decide) _ _ _ rfl ((hW.own.alloc _).alloc _) ⟨wr.heap.size + 1, 0, none⟩ 2 2 [.int .u8 _, .int .u8 _] rfl rfl (cell_two_new' _ _ _ _ _ (by simp)) (int_two _ _ _) (by unfold maxLen; omega) (by omega) (by have := hW.gr.size; simp at this ⊢; omega) ?_; intro v1 w1 ho1 hg1 _)
            have hW1 := (hW.alloc _).app hg1 ho1 (Y := ch (op) ++ ch vl) (bv_two (op) vl (by omega) (by omega) (by omega) (by omega)).symm
            have hY : ch (op) ++ ch vl = wTerm ⟨false, false, op, vl⟩ false := by
              have e : mk (⟨false, false, op, vl⟩ : Tm) false = op := by show op + _ + _ + _ = _; simp only [b2, if_true, Bool.false_eq_true, if_false]; omega
              show _ = ch (mk (⟨false, false, op, vl⟩ : Tm) false) ++ _
              rw [e]; rfl
            rw [hY] at hW1
            clear ho1 hg1 hY
            go_roundw
            case rel => exact ⟨j + 1, _, by go_num, by omega, by rw [ByteArray.size_append]; omega, hW1, HN⟩
            case measure => simp [intOf]; omega
          · have m1 : (op + 128) % 256 = op + 128 := by omega
            have m2 : vl % 256 = vl := by omega
            go_wp2_with (at_builtin; refine wpList_append_own _ rfl (.tmp 89) (.tmp 95) 90 rfl _ 5 i0 _ 1 1 Try.underlying90 hi hz0 hz1 hz2 rfl (by decide) _ _ _ rfl ((hW.own.alloc _).alloc _) ⟨wr.heap.size + 1, 0, none⟩ 2 2 [.int .u8 _, .int .u8 _] rfl rfl (cell_two_new' _ _ _ _ _ (by simp)) (int_two _ _ _) (by unfold maxLen; omega) (by omega) (by have := hW.gr.size; simp at this ⊢; omega) ?_; intro v1 w1 ho1 hg1 _)
            have hW1 := (hW.alloc _).app hg1 ho1 (Y := ch (op + 128) ++ ch vl) (bv_two (op + 128) vl (by omega) (by omega) (by omega) (by omega)).symm
            have hY : ch (op + 128) ++ ch vl = wTerm ⟨false, false, op, vl⟩ true := by
              have e : mk (⟨false, false, op, vl⟩ : Tm) true = op + 128 := by show op + _ + _ + _ = _; simp only [b2, if_true, Bool.false_eq_true, if_false]; omega
              show _ = ch (mk (⟨false, false, op, vl⟩ : Tm) true) ++ _
              rw [e]; rfl
            rw [hY] at hW1
            clear ho1 hg1 hY
            go_roundw
            case rel => exact ⟨j + 1, _, by go_num, by omega, by rw [ByteArray.size_append]; omega, hW1, HN⟩
            case measure => simp [intOf]; omega
        · cases last
          · have m1 : (op + 64) % 256 = op + 64 := by omega
            have m2 : vl % 256 = vl := by omega
            go_wp2_with (at_builtin; refine wpList_append_own _ rfl (.tmp 89) (.tmp 95) 90 rfl _ 5 i0 _ 1 1 Try.underlying90 hi hz0 hz1 hz2 rfl (by decide) _ _ _ rfl ((hW.own.alloc _).alloc _) ⟨wr.heap.size + 1, 0, none⟩ 2 2 [.int .u8 _, .int .u8 _] rfl rfl (cell_two_new' _ _ _ _ _ (by simp)) (int_two _ _ _) (by unfold maxLen; omega) (by omega) (by have := hW.gr.size; simp at this ⊢; omega) ?_; intro v1 w1 ho1 hg1 _)
            have hW1 := (hW.alloc _).app hg1 ho1 (Y := ch (op + 64) ++ ch vl) (bv_two (op + 64) vl (by omega) (by omega) (by omega) (by omega)).symm
            have hY : ch (op + 64) ++ ch vl = wTerm ⟨true, false, op, vl⟩ false := by
              have e : mk (⟨true, false, op, vl⟩ : Tm) false = op + 64 := by show op + _ + _ + _ = _; simp only [b2, if_true, Bool.false_eq_true, if_false]; omega
              show _ = ch (mk (⟨true, false, op, vl⟩ : Tm) false) ++ _
              rw [e]; rfl
            rw [hY] at hW1
            clear ho1 hg1 hY
            go_roundw
            case rel => exact ⟨j + 1, _, by go_num, by omega, by rw [ByteArray.size_append]; omega, hW1, HN⟩
            case measure => simp [intOf]; omega
          · have m1 : (op + 128 + 64) % 256 = op + 128 + 64 := by omega
            have m2 : vl % 256 = vl := by omega
            go_wp2_with (at_builtin; refine wpList_append_own _ rfl (.tmp 89) (.tmp 95) 90 rfl _ 5 i0 _ 1 1 Try.underlying90 hi hz0 hz1 hz2 rfl (by decide) _ _ _ rfl ((hW.own.alloc _).alloc _) ⟨wr.heap.size + 1, 0, none⟩ 2 2 [.int .u8 _, .int .u8 _] rfl rfl (cell_two_new' _ _ _ _ _ (by simp)) (int_two _ _ _) (by unfold maxLen; omega) (by omega) (by have := hW.gr.size; simp at this ⊢; omega) ?_; intro v1 w1 ho1 hg1 _)
            have hW1 := (hW.alloc _).app hg1 ho1 (Y := ch (op + 128 + 64) ++ ch vl) (bv_two (op + 128 + 64) vl (by omega) (by omega) (by omega) (by omega)).symm
            have hY : ch (op + 128 + 64) ++ ch vl = wTerm ⟨true, false, op, vl⟩ true := by
              have e : mk (⟨true, false, op, vl⟩ : Tm) true = op + 128 + 64 := by show op + _ + _ + _ = _; simp only [b2, if_true, Bool.false_eq_true, if_false]; omega
              show _ = ch (mk (⟨true, false, op, vl⟩ : Tm) true) ++ _
              rw [e]; rfl
            rw [hY] at hW1
            clear ho1 hg1 hY
            go_roundw
            case rel => exact ⟨j + 1, _, by go_num, by omega, by rw [ByteArray.size_append]; omega, hW1, HN⟩
            case measure => simp [intOf]; omega
      · simp only [mxV, if_true] at t3
        cases an
        · cases last
          · have m1 : (op + 16) % 256 = op + 16 := by omega
            have m2 : vl / 256 % 256 = vl / 256 := by omega
            have m3 : vl % 256 % 256 = vl % 256 := by omega
            go_wp2_with (at_builtin; refine wpList_append_own _ rfl (.tmp 75) (.tmp 87) 90 rfl _ 5 i0 _ 1 1 Try.underlying90 hi hz0 hz1 hz2 rfl (by decide) _ _ _ rfl ((hW.own.alloc _).alloc _) ⟨wr.heap.size + 1, 0, none⟩ 3 3 [.int .u8 _, .int .u8 _, .int .u8 _] rfl rfl (cell_three_new' _ _ _ _ _ _ (by simp)) (int_three _ _ _ _) (by unfold maxLen; omega) (by omega) (by have := hW.gr.size; simp at this ⊢; omega) ?_; intro v1 w1 ho1 hg1 _)
            have hW1 := (hW.alloc _).app hg1 ho1 (Y := ch (op + 16) ++ (ch (vl / 256) ++ ch (vl % 256))) (bv_three (op + 16) (vl / 256) (vl % 256) (by omega) (by omega) (by omega) (by omega) (by omega) (by omega)).symm
            have hY : ch (op + 16) ++ (ch (vl / 256) ++ ch (vl % 256)) = wTerm ⟨false, true, op, vl⟩ false := by
              have e : mk (⟨false, true, op, vl⟩ : Tm) false = op + 16 := by show op + _ + _ + _ = _; simp only [b2, if_true, Bool.false_eq_true, if_false]; omega
              show _ = ch (mk (⟨false, true, op, vl⟩ : Tm) false) ++ _
              rw [e]; rfl
            rw [hY] at hW1
            clear ho1 hg1 hY
            go_roundw
            case rel => exact ⟨j + 1, _, by go_num, by omega, by rw [ByteArray.size_append]; omega, hW1, HN⟩
            case measure => simp [intOf]; omega
          · have m1 : (op + 128 + 16) % 256 = op + 128 + 16 := by omega
            have m2 : vl / 256 % 256 = vl / 256 := by omega
            have m3 : vl % 256 % 256 = vl % 256 := by omega
            go_wp2_with (at_builtin; refine wpList_append_own _ rfl (.tmp 75) (.tmp 87) 90 rfl _ 5 i0 _ 1 1 Try.underlying90 hi hz0 hz1 hz2 rfl (by decide) _ _ _ rfl ((hW.own.alloc _).alloc _) ⟨wr.heap.size + 1, 0, none⟩ 3 3 [.int .u8 _, .int .u8 _, .int .u8 _] rfl rfl (cell_three_new' _ _ _ _ _ _ (by simp)) (int_three _ _ _ _) (by unfold maxLen; omega) (by omega) (by have := hW.gr.size; simp at this ⊢; omega) ?_; intro v1 w1 ho1 hg1 _)
            have hW1 := (hW.alloc _).app hg1 ho1 (Y := ch (op + 128 + 16) ++ (ch (vl / 256) ++ ch (vl % 256))) (bv_three (op + 128 + 16) (vl / 256) (vl % 256) (by omega) (by omega) (by omega) (by omega) (by omega) (by omega)).symm
            have hY : ch (op + 128 + 16) ++ (ch (vl / 256) ++ ch (vl % 256)) = wTerm ⟨false, true, op, vl⟩ true := by
              have e : mk (⟨false, true, op, vl⟩ : Tm) true = op + 128 + 16 := by show op + _ + _ + _ = _; simp only [b2, if_true, Bool.false_eq_true, if_false]; omega
              show _ = ch (mk (⟨false, true, op, vl⟩ : Tm) true) ++ _
              rw [e]; rfl
            rw [hY] at hW1
            clear ho1 hg1 hY
            go_roundw
            case rel => exact ⟨j + 1, _, by go_num, by omega, by rw [ByteArray.size_append]; omega, hW1, HN⟩
            case measure => simp [intOf]; omega
        · cases last
          · have m1 : (op + 64 + 16) % 256 = op + 64 + 16 := by omega
            have m2 : vl / 256 % 256 = vl / 256 := by omega
            have m3 : vl % 256 % 256 = vl % 256 := by omega
            go_wp2_with (at_builtin; refine wpList_append_own _ rfl (.tmp 75) (.tmp 87) 90 rfl _ 5 i0 _ 1 1 Try.underlying90 hi hz0 hz1 hz2 rfl (by decide) _ _ _ rfl ((hW.own.alloc _).alloc _) ⟨wr.heap.size + 1, 0, none⟩ 3 3 [.int .u8 _, .int .u8 _, .int .u8 _] rfl rfl (cell_three_new' _ _ _ _ _ _ (by simp)) (int_three _ _ _ _) (by unfold maxLen; omega) (by omega) (by have := hW.gr.size; simp at this ⊢; omega) ?_; intro v1 w1 ho1 hg1 _)
            have hW1 := (hW.alloc _).app hg1 ho1 (Y := ch (op + 64 + 16) ++ (ch (vl / 256) ++ ch (vl % 256))) (bv_three (op + 64 + 16) (vl / 256) (vl % 256) (by omega) (by omega) (by omega) (by omega) (by omega) (by omega)).symm
            have hY : ch (op + 64 + 16) ++ (ch (vl / 256) ++ ch (vl % 256)) = wTerm ⟨true, true, op, vl⟩ false := by
              have e : mk (⟨true, true, op, vl⟩ : Tm) false = op + 64 + 16 := by show op + _ + _ + _ = _; simp only [b2, if_true, Bool.false_eq_true, if_false]; omega
              show _ = ch (mk (⟨true, true, op, vl⟩ : Tm) false) ++ _
              rw [e]; rfl
            rw [hY] at hW1
            clear ho1 hg1 hY
            go_roundw
            case rel => exact ⟨j + 1, _, by go_num, by omega, by rw [ByteArray.size_append]; omega, hW1, HN⟩
            case measure => simp [intOf]; omega
          · have m1 : (op + 128 + 64 + 16) % 256 = op + 128 + 64 + 16 := by omega
            have m2 : vl / 256 % 256 = vl / 256 := by omega
            have m3 : vl % 256 % 256 = vl % 256 := by omega
            go_wp2_with (at_builtin; refine wpList_append_own _ rfl (.tmp 75) (.tmp 87) 90 rfl _ 5 i0 _ 1 1 Try.underlying90 hi hz0 hz1 hz2 rfl (by decide) _ _ _ rfl ((hW.own.alloc _).alloc _) ⟨wr.heap.size + 1, 0, none⟩ 3 3 [.int .u8 _, .int .u8 _, .int .u8 _] rfl rfl (cell_three_new' _ _ _ _ _ _ (by simp)) (int_three _ _ _ _) (by unfold maxLen; omega) (by omega) (by have := hW.gr.size; simp at this ⊢; omega) ?_; intro v1 w1 ho1 hg1 _)
            have hW1 := (hW.alloc _).app hg1 ho1 (Y := ch (op + 128 + 64 + 16) ++ (ch (vl / 256) ++ ch (vl % 256))) (bv_three (op + 128 + 64 + 16) (vl / 256) (vl % 256) (by omega) (by omega) (by omega) (by omega) (by omega) (by omega)).symm
            have hY : ch (op + 128 + 64 + 16) ++ (ch (vl / 256) ++ ch (vl % 256)) = wTerm ⟨true, true, op, vl⟩ true := by
              have e : mk (⟨true, true, op, vl⟩ : Tm) true = op + 128 + 64 + 16 := by show op + _ + _ + _ = _; simp only [b2, if_true, Bool.false_eq_true, if_false]; omega
              show _ = ch (mk (⟨true, true, op, vl⟩ : Tm) true) ++ _
              rw [e]; rfl
            rw [hY] at hW1
            clear ho1 hg1 hY
            go_roundw
            case rel => exact ⟨j + 1, _, by go_num, by omega, by rw [ByteArray.size_append]; omega, hW1, HN⟩
            case measure => simp [intOf]; omega
    · have HN : Hid (ch k ++ wTerms ts = X) := by show _ = _; rw [← H.out, List.drop_of_length_le (by omega)]; exact app_nil _
      have hX' : 0 < X.size := by rw [← HN.out, ByteArray.size_append, ch_size]; omega
      have hcv := conv_own hW.own hX'
      clear H ht hall
      go_wp2
      go_ret
      exact ⟨by rw [HN.out]; rfl, hb0⟩

theorem written_any (p : Pt) (ao : Option Addr) (cap : Nat) (w : World) (hp : isP p = true) (ht : TermsIn w ao p.ts) :
    Calls Try.prog 32 #[.agg #[.int .i64 p.ty, .int .i64 p.bt, .int .i64 p.ln, .slice ao p.ts.length cap]] w fun e w' => e = .returned (.string (wPart p)) ∧ Below w.heap.size w w' := by
  unfold wPart
  cases hk : hasP p.ty
  · obtain ⟨h1, h2, h3, h4, h5, h6⟩ := isP_terms hp hk
    have := hasT_bd h1
    rw [h2, h3]
    exact written_terms p.ty p.ts ao cap w (by omega) (by omega) h5 h6 ht
  · obtain ⟨h1, h2⟩ := isP_pref hp hk
    have := hasP_bd hk
    exact written_pref p ao cap w (by omega) (by omega) h2
end Go.Proofs.Ytkdcjcemeipkjaa
