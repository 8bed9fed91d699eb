import Derived.Test.YtgkiknfpcbcnnaaGreatGr
namespace Go.Proofs.YtgkiknfpcbcnnaaGreat
open Go.RowKit
set_option maxRecDepth 20000
theorem conv_at (u : World) (x : Int) (k : Nat) (hk : u.heap.size = k) (h0 : 0 ≤ x) (h1 : x ≤ 255) :
    (convert 146 9 (.slice (some ⟨k, 0, none⟩) 1 1)).run Tryz.prog (u.alloc (.cells #[.int .u8 x] 5)) = .ok (.string (ch x)) (u.alloc (.cells #[.int .u8 x] 5)) := by
  subst hk; exact conv_one u x h0 h1
theorem pfx_size (v l : Nat) (h : l ≤ 16) : ((bin v 16).extract 0 l).size = l := by
  have := bin_size v 16
  rw [ByteArray.size_extract]
  omega
theorem key_pref (k : Int) (b l : Nat) (acc : ByteArray) (hk : hasP k = true) (hl : l ≤ 16) (ts : List Tm) : bl (acc ++ ch k ++ (bin b 16).extract 0 l ++ ⟨#[50]⟩) = bl acc ++ keyL ⟨k, b, l, ts⟩ := by
  have e : bl ((bin b 16).extract 0 l) = binL (b / 2 ^ (16 - l)) l := bl_pfx b l hl
  rw [bl_app, bl_app, bl_app, bl_ch, e]
  unfold keyL
  simp only [hk, if_true, prefKey, Int.toNat_natCast]
  simp [bl]
set_option maxHeartbeats 1000000 in
theorem key_any (ps : List Pt) (ao : Option Addr) (cap : Nat) (w : World) (l5 : ps.length ≤ 5) (hP : ∀ j (h : j < ps.length), isP ps[j] = true) (ha : PartsIn w ao ps) :
    Calls Tryz.prog 56 #[.agg #[.slice ao ps.length cap]] w fun e w' => (∃ K, e = .returned (.string K) ∧ bl K = keyR ps ∧ K.size ≤ 1000) ∧ Below w.heap.size w w' := by
  have HP : Hid (∀ j (h : j < ps.length), isP ps[j] = true) := hP
  clear hP
  go_enter Tryz.func56, Tryz.ntmps56
  go_wp2
  go_loopw [3, 4] (fun s x wr => ∃ (j : Nat) (acc : ByteArray), x = .int .i64 j ∧ s = .string acc ∧ j ≤ ps.length ∧ acc.size ≤ 25 * j ∧ Below (w.heap.size + 1) (w.alloc (.cells #[.slice ao ps.length cap] 114)) wr ∧ Hid (bl acc ++ (ps.drop j).flatMap keyL = ps.flatMap keyL)) (fun _ x _ => ps.length - (intOf x).toNat)
  case atStart => exact ⟨0, _, rfl, rfl, Nat.zero_le _, Nat.zero_le _, Below.refl _ _, rfl⟩
  case round =>
    obtain ⟨j, acc, rfl, rfl, hj, hacc, hbel, H⟩ := hrel
    have hb0 := below_first' hbel
    have k0 : wr.cell? ⟨w.heap.size, 0, none⟩ = some (.slice ao ps.length cap) := (hbel.cell (by simp)).trans (by simp [go_sem])
    have hz' := hbel.size
    simp only [World.size_alloc] at hz'
    have kz : w.heap.size < wr.heap.size := by omega
    by_cases hlt : j < ps.length
    · obtain ⟨bk, off, tao, tcap, rfl, c0, c1, c2, c3, hl, ht⟩ := ha.below hb0 j hlt
      have hp := HP.out j hlt
      have hd : ps.drop j = ps[j] :: ps.drop (j + 1) := List.drop_eq_getElem_cons hlt
      rw [hd] at H
      clear hd ha
      generalize ps[j] = p at *
      have hw := wPart_size hp
      have hty := isP_ty hp
      cases hk : hasP p.ty
      · have d1 : decide (p.ty ≤ 2) = false := by simp only [hasP, decide_eq_false_iff_not] at hk; simp; omega
        have HN : Hid (bl (acc ++ wPart p) ++ (ps.drop (j + 1)).flatMap keyL = ps.flatMap keyL) := by
          show _ = _
          rw [← H.out, bl_app, List.flatMap_cons, List.append_assoc]
          unfold keyL
          rw [hk]
          rfl
        clear H
        have ht2 := ht.below (below_alloc wr (.cells #[.int .i64 p.ty, .int .i64 p.bt, .int .i64 p.ln, .slice tao p.ts.length tcap] 140))
        go_wp2_with (go_at_call 79; refine (written_any p _ _ _ hp ht2).mono ?_; rintro e w1 ⟨rfl, hb1⟩)
        go_roundw
        case rel => exact ⟨j + 1, _, by go_num, rfl, by omega, by rw [ByteArray.size_append]; omega, hbel.trans ((below_first hb1).mono (by omega)), HN⟩
        case measure => simp [intOf]; omega
      · have k2 := hasP_bd hk
        have d1 : decide (p.ty ≤ 2) = true := by simp; omega
        obtain ⟨o1, o2, o3, o4, _⟩ := prefOK_bd (isP_pref hp hk).2
        obtain ⟨ty, bt, ln, ts⟩ := p
        simp only [] at c0 c1 c2 c3 k2 d1 o1 o2 o3 o4 hk ht hl
        obtain ⟨b, rfl⟩ := Int.eq_ofNat_of_zero_le o3
        obtain ⟨l, rfl⟩ := Int.eq_ofNat_of_zero_le o1
        have hl16 : l ≤ 16 := by omega
        have hb16 : b ≤ 65535 := by omega
        have HN : Hid (bl (acc ++ ch ty ++ (bin b 16).extract 0 l ++ ⟨#[50]⟩) ++ (ps.drop (j + 1)).flatMap keyL = ps.flatMap keyL) := by
          show _ = _
          rw [← H.out, key_pref ty b l acc hk hl16 ts, List.flatMap_cons, List.append_assoc]
        clear H o1 o2 o3 o4
        have hwr : IntKind.u8.wrap ty = ty := by simp [IntKind.wrap, IntKind.signed, IntKind.bits]; omega
        have e3 := ch_size ty
        have s1 := bin_size b 16
        have s2 := pfx_size b l hl16
        have i1 : (l : Int) ≤ ((bin b 16).size : Int) := by omega
        obtain ⟨W0, hW0⟩ : ∃ W0, W0 = wr.alloc (.cells #[.int .i64 ty, .int .i64 b, .int .i64 l, .slice tao ts.length tcap] 140) := ⟨_, rfl⟩
        have b1 : Below (wr.alloc (.cells #[.int .i64 ty, .int .i64 b, .int .i64 l, .slice tao ts.length tcap] 140)).heap.size (wr.alloc (.cells #[.int .i64 ty, .int .i64 b, .int .i64 l, .slice tao ts.length tcap] 140)) W0 := by rw [hW0]; exact Below.refl _ _
        obtain ⟨a0, a1, a2, a3, af, az⟩ := cells_of_below b1
        have bw := below_first b1
        have HS : Hid (∀ w' : World, Below W0.heap.size W0 w' → w'.cell? ⟨wr.heap.size, 0, none⟩ = some (.int .i64 ty) ∧ w'.cell? ⟨wr.heap.size, 1, none⟩ = some (.int .i64 b) ∧ w'.cell? ⟨wr.heap.size, 2, none⟩ = some (.int .i64 l) ∧ Below W0.heap.size W0 w') := fun w' hx =>
          ⟨(hx.cell az).trans a0, (hx.cell az).trans a1, (hx.cell az).trans a2, hx⟩
        have HW : Hid (W0 = wr.alloc (.cells #[.int .i64 ty, .int .i64 b, .int .i64 l, .slice tao ts.length tcap] 140)) := hW0
        clear a3 b1 hW0
        go_wp2_with fail
        rw [← HW.out]
        clear c0 c1 c2 c3 HW
        have hc : (convert 146 9 (.slice (some ⟨W0.heap.size, 0, none⟩) 1 1)).run Tryz.prog (W0.alloc (.cells #[.int .u8 (IntKind.u8.wrap ty)] 5)).drew = .ok (.string (ch ty)) (W0.alloc (.cells #[.int .u8 (IntKind.u8.wrap ty)] 5)).drew := by
          rw [hwr]
          exact conv_at W0.drew ty W0.heap.size rfl (by omega) (by omega)
        have f1 : acc.size ≤ 9223372036854775806 := by omega
        have f2 : acc.size + 1 + l ≤ 9223372036854775807 := by omega
        have f3 : acc.size + 1 + l ≤ 9223372036854775806 := by omega
        have hsz : (acc ++ ch ty ++ (bin b 16).extract 0 l ++ ⟨#[50]⟩).size ≤ 25 * (j + 1) := by
          rw [ByteArray.size_append, ByteArray.size_append, ByteArray.size_append, e3, s2]
          show acc.size + 1 + l + 1 ≤ _
          omega
        have hbelN : Below (w.heap.size + 1) (w.alloc (.cells #[.slice (some ⟨bk, off, none⟩) ps.length cap] 114)) (W0.alloc (.cells #[.int .u8 ty] 5)).drew := hbel.trans ((bw.trans (((Below.refl _ _).alloc (by omega) _).drew)).mono hz')
        have hcw := hc
        rw [hwr] at hcw
        refine wp_region_held_drew (S := fun w' => w'.cell? ⟨wr.heap.size, 0, none⟩ = some (.int .i64 ty) ∧ w'.cell? ⟨wr.heap.size, 1, none⟩ = some (.int .i64 b) ∧ w'.cell? ⟨wr.heap.size, 2, none⟩ = some (.int .i64 l) ∧ Below W0.heap.size W0 w') (by kernel_rfl) (HS.out _ (Below.refl _ _).drew) (fun hHeld => ?_)
        refine wpAnyH_take (i := 0) (oi := { dst := some 21, op := Op.move (Operand.tmp 3), type := 9, pos := "rules.go:263", after := #[], guard := none }) (v := ?_) rfl (by kernel_rfl) (by kernel_rfl) (by kernel_rfl) (fun _ _ _ h => h) (Or.inl ⟨by rfl, ?_⟩) (by assumption) ?_
        rotate_left
        · (intro w2 hSw; (try dsimp only at hSw); go_simp; try (first | with_reducible rfl | (refine (if_neg ?_).trans ?_; (first | omega | (simp only [ByteArray.size_append]; omega)); with_reducible rfl) | (refine (if_pos ?_).trans ?_; omega; with_reducible rfl)))
        try simp only [Act.put, List.setIfInBounds_toArray, List.set_cons_zero, List.set_cons_succ]
        refine wpAnyH_take (i := 1) (oi := { dst := some 22, op := Op.fieldAddr 140 (Operand.tmp 5) 0, type := 0, pos := "rules.go:263", after := #[], guard := none }) (v := ?_) rfl (by kernel_rfl) (by kernel_rfl) (by kernel_rfl) (fun _ _ _ h => h) (Or.inl ⟨by rfl, ?_⟩) (by assumption) ?_
        rotate_left
        · (intro w2 hSw; (try dsimp only at hSw); go_simp; try (first | with_reducible rfl | (refine (if_neg ?_).trans ?_; (first | omega | (simp only [ByteArray.size_append]; omega)); with_reducible rfl) | (refine (if_pos ?_).trans ?_; omega; with_reducible rfl)))
        try simp only [Act.put, List.setIfInBounds_toArray, List.set_cons_zero, List.set_cons_succ]
        refine wpAnyH_take (i := 2) (oi := { dst := some 23, op := Op.load 3 (Operand.tmp 22), type := 3, pos := "rules.go:263", after := #[{ on := 1, ground := Ground.data }], guard := none }) (v := ?_) rfl (by kernel_rfl) (by kernel_rfl) (by kernel_rfl) (fun _ _ _ h => h) (Or.inl ⟨by rfl, ?_⟩) (by assumption) ?_
        rotate_left
        · (intro w2 hSw; (try dsimp only at hSw); go_simp; try (first | with_reducible rfl | (refine (if_neg ?_).trans ?_; (first | omega | (simp only [ByteArray.size_append]; omega)); with_reducible rfl) | (refine (if_pos ?_).trans ?_; omega; with_reducible rfl)))
        try simp only [Act.put, List.setIfInBounds_toArray, List.set_cons_zero, List.set_cons_succ]
        refine wpAnyH_take (i := 3) (oi := { dst := some 24, op := Op.convert 3 5 (Operand.tmp 23), type := 5, pos := "rules.go:263", after := #[{ on := 2, ground := Ground.data }], guard := none }) (v := ?_) rfl (by kernel_rfl) (by kernel_rfl) (by kernel_rfl) (fun _ _ _ h => h) (Or.inl ⟨by rfl, ?_⟩) (by assumption) ?_
        rotate_left
        · (intro w2 hSw; (try dsimp only at hSw); go_simp; try (first | with_reducible rfl | (refine (if_neg ?_).trans ?_; (first | omega | (simp only [ByteArray.size_append]; omega)); with_reducible rfl) | (refine (if_pos ?_).trans ?_; omega; with_reducible rfl)))
        try simp only [Act.put, List.setIfInBounds_toArray, List.set_cons_zero, List.set_cons_succ]
        refine wpAnyH_take (i := 7) (oi := { dst := some 28, op := Op.fieldAddr 140 (Operand.tmp 5) 1, type := 0, pos := "rules.go:263", after := #[], guard := none }) (v := ?_) rfl (by kernel_rfl) (by kernel_rfl) (by kernel_rfl) (fun _ _ _ h => h) (Or.inl ⟨by rfl, ?_⟩) (by assumption) ?_
        rotate_left
        · (intro w2 hSw; (try dsimp only at hSw); go_simp; try (first | with_reducible rfl | (refine (if_neg ?_).trans ?_; (first | omega | (simp only [ByteArray.size_append]; omega)); with_reducible rfl) | (refine (if_pos ?_).trans ?_; omega; with_reducible rfl)))
        try simp only [Act.put, List.setIfInBounds_toArray, List.set_cons_zero, List.set_cons_succ]
        refine wpAnyH_take (i := 8) (oi := { dst := some 29, op := Op.fieldAddr 39 (Operand.tmp 28) 0, type := 0, pos := "rules.go:263", after := #[{ on := 7, ground := Ground.data }], guard := none }) (v := ?_) rfl (by kernel_rfl) (by kernel_rfl) (by kernel_rfl) (fun _ _ _ h => h) (Or.inl ⟨by rfl, ?_⟩) (by assumption) ?_
        rotate_left
        · (intro w2 hSw; (try dsimp only at hSw); go_simp; try (first | with_reducible rfl | (refine (if_neg ?_).trans ?_; (first | omega | (simp only [ByteArray.size_append]; omega)); with_reducible rfl) | (refine (if_pos ?_).trans ?_; omega; with_reducible rfl)))
        try simp only [Act.put, List.setIfInBounds_toArray, List.set_cons_zero, List.set_cons_succ]
        refine wpAnyH_take (i := 9) (oi := { dst := some 30, op := Op.load 3 (Operand.tmp 29), type := 3, pos := "rules.go:263", after := #[{ on := 8, ground := Ground.data }], guard := none }) (v := ?_) rfl (by kernel_rfl) (by kernel_rfl) (by kernel_rfl) (fun _ _ _ h => h) (Or.inl ⟨by rfl, ?_⟩) (by assumption) ?_
        rotate_left
        · (intro w2 hSw; (try dsimp only at hSw); go_simp; try (first | with_reducible rfl | (refine (if_neg ?_).trans ?_; (first | omega | (simp only [ByteArray.size_append]; omega)); with_reducible rfl) | (refine (if_pos ?_).trans ?_; omega; with_reducible rfl)))
        try simp only [Act.put, List.setIfInBounds_toArray, List.set_cons_zero, List.set_cons_succ]
        refine wpAnyH_take (i := 11) (oi := { dst := some 32, op := Op.fieldAddr 140 (Operand.tmp 5) 1, type := 0, pos := "rules.go:263", after := #[], guard := none }) (v := ?_) rfl (by kernel_rfl) (by kernel_rfl) (by kernel_rfl) (fun _ _ _ h => h) (Or.inl ⟨by rfl, ?_⟩) (by assumption) ?_
        rotate_left
        · (intro w2 hSw; (try dsimp only at hSw); go_simp; try (first | with_reducible rfl | (refine (if_neg ?_).trans ?_; (first | omega | (simp only [ByteArray.size_append]; omega)); with_reducible rfl) | (refine (if_pos ?_).trans ?_; omega; with_reducible rfl)))
        try simp only [Act.put, List.setIfInBounds_toArray, List.set_cons_zero, List.set_cons_succ]
        refine wpAnyH_take (i := 12) (oi := { dst := some 33, op := Op.fieldAddr 39 (Operand.tmp 32) 1, type := 0, pos := "rules.go:263", after := #[{ on := 11, ground := Ground.data }], guard := none }) (v := ?_) rfl (by kernel_rfl) (by kernel_rfl) (by kernel_rfl) (fun _ _ _ h => h) (Or.inl ⟨by rfl, ?_⟩) (by assumption) ?_
        rotate_left
        · (intro w2 hSw; (try dsimp only at hSw); go_simp; try (first | with_reducible rfl | (refine (if_neg ?_).trans ?_; (first | omega | (simp only [ByteArray.size_append]; omega)); with_reducible rfl) | (refine (if_pos ?_).trans ?_; omega; with_reducible rfl)))
        try simp only [Act.put, List.setIfInBounds_toArray, List.set_cons_zero, List.set_cons_succ]
        refine wpAnyH_take (i := 13) (oi := { dst := some 34, op := Op.load 3 (Operand.tmp 33), type := 3, pos := "rules.go:263", after := #[{ on := 12, ground := Ground.data }], guard := none }) (v := ?_) rfl (by kernel_rfl) (by kernel_rfl) (by kernel_rfl) (fun _ _ _ h => h) (Or.inl ⟨by rfl, ?_⟩) (by assumption) ?_
        rotate_left
        · (intro w2 hSw; (try dsimp only at hSw); go_simp; try (first | with_reducible rfl | (refine (if_neg ?_).trans ?_; (first | omega | (simp only [ByteArray.size_append]; omega)); with_reducible rfl) | (refine (if_pos ?_).trans ?_; omega; with_reducible rfl)))
        try simp only [Act.put, List.setIfInBounds_toArray, List.set_cons_zero, List.set_cons_succ]
        refine wpAnyH_ready (rs := [4, 10]) (by kernel_rfl) (by simp) ?_
        refine AllReadyH.cons (o := { dst := some 25, op := Op.buildSlice 146 1 #[(0, Operand.tmp 24)], type := 146, pos := "rules.go:263", after := #[{ on := 3, ground := Ground.data }], guard := none }) rfl (fun K hK => ?_) ?_
        · go_simp
          refine hK.out _ _ (by first | assumption | exact HS.out _ ((Below.refl _ _).alloc (Nat.le_refl _) _).drew | exact HS.out _ ((Below.refl _ _).drew.alloc (by simp) _)) (fun hHeld1 => ?_)
          clear hK K
          try simp only [Act.put, List.setIfInBounds_toArray, List.set_cons_zero, List.set_cons_succ]
          refine wpAnyH_ready (rs := [5, 10]) (by kernel_rfl) (by simp) ?_
          refine AllReadyH.cons (o := { dst := some 26, op := Op.convert 146 9 (Operand.tmp 25), type := 9, pos := "rules.go:263", after := #[{ on := 4, ground := Ground.data }], guard := none }) rfl (fun K hK => ?_) ?_
          · go_simp
            refine hK.out _ _ (by first | assumption | exact HS.out _ ((Below.refl _ _).alloc (Nat.le_refl _) _).drew | exact HS.out _ ((Below.refl _ _).drew.alloc (by simp) _)) (fun hHeld2 => ?_)
            clear hK K
            try simp only [Act.put, List.setIfInBounds_toArray, List.set_cons_zero, List.set_cons_succ]
            refine wpAnyH_take (i := 6) (oi := { dst := some 27, op := Op.binOp BinOp.add 9 (Operand.tmp 21) (Operand.tmp 26) 9, type := 9, pos := "rules.go:263", after := #[{ on := 0, ground := Ground.data }, { on := 5, ground := Ground.data }], guard := none }) (v := ?_) rfl (by kernel_rfl) (by kernel_rfl) (by kernel_rfl) (fun _ _ _ h => h) (Or.inl ⟨by rfl, ?_⟩) (by assumption) ?_
            rotate_left
            · (intro w2 hSw; (try dsimp only at hSw); go_simp; try (first | with_reducible rfl | (refine (if_neg ?_).trans ?_; (first | omega | (simp only [ByteArray.size_append]; omega)); with_reducible rfl) | (refine (if_pos ?_).trans ?_; omega; with_reducible rfl)))
            try simp only [Act.put, List.setIfInBounds_toArray, List.set_cons_zero, List.set_cons_succ]
            refine wpAnyH_ready (rs := [10]) (by kernel_rfl) (by simp) ?_
            refine AllReadyH.cons (o := { dst := some 31, op := Op.call { callee := Callee.value (Operand.func 78), args := #[Operand.tmp 30, Operand.const (Value.int IntKind.i64 16)], argTypes := #[3, 3] }, type := 9, pos := "rules.go:263", after := #[{ on := 9, ground := Ground.data }], guard := none }) rfl (fun K hK => ?_) ?_
            · (go_simp; go_at_call 78; refine (binary_16 b _ hb16).mono ?_; rintro e w1 ⟨rfl, rfl⟩)
              refine hK.out _ _ (by first | assumption | exact HS.out _ ((Below.refl _ _).alloc (Nat.le_refl _) _).drew | exact HS.out _ ((Below.refl _ _).drew.alloc (by simp) _)) (fun hHeld3 => ?_)
              clear hK K
              try simp only [Act.put, List.setIfInBounds_toArray, List.set_cons_zero, List.set_cons_succ]
              refine wpAnyH_take (i := 14) (oi := { dst := some 35, op := Op.slice 9 (Operand.tmp 31) none (some (Operand.tmp 34)) none, type := 9, pos := "rules.go:263", after := #[{ on := 10, ground := Ground.data }, { on := 13, ground := Ground.data }], guard := none }) (v := ?_) rfl (by kernel_rfl) (by kernel_rfl) (by kernel_rfl) (fun _ _ _ h => h) (Or.inl ⟨by rfl, ?_⟩) (by assumption) ?_
              rotate_left
              · (intro w2 hSw; (try dsimp only at hSw); go_simp; try (first | with_reducible rfl | (refine (if_neg ?_).trans ?_; (first | omega | (simp only [ByteArray.size_append]; omega)); with_reducible rfl) | (refine (if_pos ?_).trans ?_; omega; with_reducible rfl)))
              try simp only [Act.put, List.setIfInBounds_toArray, List.set_cons_zero, List.set_cons_succ]
              refine wpAnyH_take (i := 15) (oi := { dst := some 36, op := Op.binOp BinOp.add 9 (Operand.tmp 27) (Operand.tmp 35) 9, type := 9, pos := "rules.go:263", after := #[{ on := 6, ground := Ground.data }, { on := 14, ground := Ground.data }], guard := none }) (v := ?_) rfl (by kernel_rfl) (by kernel_rfl) (by kernel_rfl) (fun _ _ _ h => h) (Or.inl ⟨by rfl, ?_⟩) (by assumption) ?_
              rotate_left
              · (intro w2 hSw; (try dsimp only at hSw); go_simp; try (first | with_reducible rfl | (refine (if_neg ?_).trans ?_; (first | omega | (simp only [ByteArray.size_append]; omega)); with_reducible rfl) | (refine (if_pos ?_).trans ?_; omega; with_reducible rfl)))
              try simp only [Act.put, List.setIfInBounds_toArray, List.set_cons_zero, List.set_cons_succ]
              refine wpAnyH_take (i := 16) (oi := { dst := some 37, op := Op.binOp BinOp.add 9 (Operand.tmp 36) (Operand.const (Value.string { data := #[50] })) 9, type := 9, pos := "rules.go:263", after := #[{ on := 15, ground := Ground.data }], guard := none }) (v := ?_) rfl (by kernel_rfl) (by kernel_rfl) (by kernel_rfl) (fun _ _ _ h => h) (Or.inl ⟨by rfl, ?_⟩) (by assumption) ?_
              rotate_left
              · (intro w2 hSw; (try dsimp only at hSw); go_simp; try (first | with_reducible rfl | (refine (if_neg ?_).trans ?_; (first | omega | (simp only [ByteArray.size_append]; omega)); with_reducible rfl) | (refine (if_pos ?_).trans ?_; omega; with_reducible rfl)))
              try simp only [Act.put, List.setIfInBounds_toArray, List.set_cons_zero, List.set_cons_succ]
              refine wpAnyH_take (i := 17) (oi := { dst := some 3, op := Op.assign (Operand.tmp 37), type := 9, pos := "rules.go:263", after := #[{ on := 16, ground := Ground.data }, { on := 10, ground := Ground.chain }, { on := 0, ground := Ground.phase }, { on := 1, ground := Ground.phase }, { on := 2, ground := Ground.phase }, { on := 3, ground := Ground.phase }, { on := 4, ground := Ground.phase }, { on := 5, ground := Ground.phase }, { on := 6, ground := Ground.phase }, { on := 7, ground := Ground.phase }, { on := 8, ground := Ground.phase }, { on := 9, ground := Ground.phase }, { on := 10, ground := Ground.phase }, { on := 11, ground := Ground.phase }, { on := 12, ground := Ground.phase }, { on := 13, ground := Ground.phase }, { on := 14, ground := Ground.phase }, { on := 15, ground := Ground.phase }, { on := 16, ground := Ground.phase }], guard := none }) (v := ?_) rfl (by kernel_rfl) (by kernel_rfl) (by kernel_rfl) (fun _ _ _ h => h) (Or.inl ⟨by rfl, ?_⟩) (by assumption) ?_
              rotate_left
              · (intro w2 hSw; (try dsimp only at hSw); go_simp; try (first | with_reducible rfl | (refine (if_neg ?_).trans ?_; (first | omega | (simp only [ByteArray.size_append]; omega)); with_reducible rfl) | (refine (if_pos ?_).trans ?_; omega; with_reducible rfl)))
              try simp only [Act.put, List.setIfInBounds_toArray, List.set_cons_zero, List.set_cons_succ]
              refine wpAnyH_done (by kernel_rfl) ?_ _
              go_wp2
              go_roundw
              case rel => exact ⟨j + 1, _, by go_num, rfl, by omega, hsz, hbelN, HN⟩
              case measure => simp [intOf]; omega
            exact AllReadyH.nil
          refine AllReadyH.cons (o := { dst := some 31, op := Op.call { callee := Callee.value (Operand.func 78), args := #[Operand.tmp 30, Operand.const (Value.int IntKind.i64 16)], argTypes := #[3, 3] }, type := 9, pos := "rules.go:263", after := #[{ on := 9, ground := Ground.data }], guard := none }) rfl (fun K hK => ?_) ?_
          · (go_simp; go_at_call 78; refine (binary_16 b _ hb16).mono ?_; rintro e w1 ⟨rfl, rfl⟩)
            refine hK.out _ _ (by first | assumption | exact HS.out _ ((Below.refl _ _).alloc (Nat.le_refl _) _).drew | exact HS.out _ ((Below.refl _ _).drew.alloc (by simp) _)) (fun hHeld2 => ?_)
            clear hK K
            try simp only [Act.put, List.setIfInBounds_toArray, List.set_cons_zero, List.set_cons_succ]
            refine wpAnyH_take (i := 14) (oi := { dst := some 35, op := Op.slice 9 (Operand.tmp 31) none (some (Operand.tmp 34)) none, type := 9, pos := "rules.go:263", after := #[{ on := 10, ground := Ground.data }, { on := 13, ground := Ground.data }], guard := none }) (v := ?_) rfl (by kernel_rfl) (by kernel_rfl) (by kernel_rfl) (fun _ _ _ h => h) (Or.inl ⟨by rfl, ?_⟩) (by assumption) ?_
            rotate_left
            · (intro w2 hSw; (try dsimp only at hSw); go_simp; try (first | with_reducible rfl | (refine (if_neg ?_).trans ?_; (first | omega | (simp only [ByteArray.size_append]; omega)); with_reducible rfl) | (refine (if_pos ?_).trans ?_; omega; with_reducible rfl)))
            try simp only [Act.put, List.setIfInBounds_toArray, List.set_cons_zero, List.set_cons_succ]
            refine wpAnyH_ready (rs := [5]) (by kernel_rfl) (by simp) ?_
            refine AllReadyH.cons (o := { dst := some 26, op := Op.convert 146 9 (Operand.tmp 25), type := 9, pos := "rules.go:263", after := #[{ on := 4, ground := Ground.data }], guard := none }) rfl (fun K hK => ?_) ?_
            · go_simp
              refine hK.out _ _ (by first | assumption | exact HS.out _ ((Below.refl _ _).alloc (Nat.le_refl _) _).drew | exact HS.out _ ((Below.refl _ _).drew.alloc (by simp) _)) (fun hHeld3 => ?_)
              clear hK K
              try simp only [Act.put, List.setIfInBounds_toArray, List.set_cons_zero, List.set_cons_succ]
              refine wpAnyH_take (i := 6) (oi := { dst := some 27, op := Op.binOp BinOp.add 9 (Operand.tmp 21) (Operand.tmp 26) 9, type := 9, pos := "rules.go:263", after := #[{ on := 0, ground := Ground.data }, { on := 5, ground := Ground.data }], guard := none }) (v := ?_) rfl (by kernel_rfl) (by kernel_rfl) (by kernel_rfl) (fun _ _ _ h => h) (Or.inl ⟨by rfl, ?_⟩) (by assumption) ?_
              rotate_left
              · (intro w2 hSw; (try dsimp only at hSw); go_simp; try (first | with_reducible rfl | (refine (if_neg ?_).trans ?_; (first | omega | (simp only [ByteArray.size_append]; omega)); with_reducible rfl) | (refine (if_pos ?_).trans ?_; omega; with_reducible rfl)))
              try simp only [Act.put, List.setIfInBounds_toArray, List.set_cons_zero, List.set_cons_succ]
              refine wpAnyH_take (i := 15) (oi := { dst := some 36, op := Op.binOp BinOp.add 9 (Operand.tmp 27) (Operand.tmp 35) 9, type := 9, pos := "rules.go:263", after := #[{ on := 6, ground := Ground.data }, { on := 14, ground := Ground.data }], guard := none }) (v := ?_) rfl (by kernel_rfl) (by kernel_rfl) (by kernel_rfl) (fun _ _ _ h => h) (Or.inl ⟨by rfl, ?_⟩) (by assumption) ?_
              rotate_left
              · (intro w2 hSw; (try dsimp only at hSw); go_simp; try (first | with_reducible rfl | (refine (if_neg ?_).trans ?_; (first | omega | (simp only [ByteArray.size_append]; omega)); with_reducible rfl) | (refine (if_pos ?_).trans ?_; omega; with_reducible rfl)))
              try simp only [Act.put, List.setIfInBounds_toArray, List.set_cons_zero, List.set_cons_succ]
              refine wpAnyH_take (i := 16) (oi := { dst := some 37, op := Op.binOp BinOp.add 9 (Operand.tmp 36) (Operand.const (Value.string { data := #[50] })) 9, type := 9, pos := "rules.go:263", after := #[{ on := 15, ground := Ground.data }], guard := none }) (v := ?_) rfl (by kernel_rfl) (by kernel_rfl) (by kernel_rfl) (fun _ _ _ h => h) (Or.inl ⟨by rfl, ?_⟩) (by assumption) ?_
              rotate_left
              · (intro w2 hSw; (try dsimp only at hSw); go_simp; try (first | with_reducible rfl | (refine (if_neg ?_).trans ?_; (first | omega | (simp only [ByteArray.size_append]; omega)); with_reducible rfl) | (refine (if_pos ?_).trans ?_; omega; with_reducible rfl)))
              try simp only [Act.put, List.setIfInBounds_toArray, List.set_cons_zero, List.set_cons_succ]
              refine wpAnyH_take (i := 17) (oi := { dst := some 3, op := Op.assign (Operand.tmp 37), type := 9, pos := "rules.go:263", after := #[{ on := 16, ground := Ground.data }, { on := 10, ground := Ground.chain }, { on := 0, ground := Ground.phase }, { on := 1, ground := Ground.phase }, { on := 2, ground := Ground.phase }, { on := 3, ground := Ground.phase }, { on := 4, ground := Ground.phase }, { on := 5, ground := Ground.phase }, { on := 6, ground := Ground.phase }, { on := 7, ground := Ground.phase }, { on := 8, ground := Ground.phase }, { on := 9, ground := Ground.phase }, { on := 10, ground := Ground.phase }, { on := 11, ground := Ground.phase }, { on := 12, ground := Ground.phase }, { on := 13, ground := Ground.phase }, { on := 14, ground := Ground.phase }, { on := 15, ground := Ground.phase }, { on := 16, ground := Ground.phase }], guard := none }) (v := ?_) rfl (by kernel_rfl) (by kernel_rfl) (by kernel_rfl) (fun _ _ _ h => h) (Or.inl ⟨by rfl, ?_⟩) (by assumption) ?_
              rotate_left
              · (intro w2 hSw; (try dsimp only at hSw); go_simp; try (first | with_reducible rfl | (refine (if_neg ?_).trans ?_; (first | omega | (simp only [ByteArray.size_append]; omega)); with_reducible rfl) | (refine (if_pos ?_).trans ?_; omega; with_reducible rfl)))
              try simp only [Act.put, List.setIfInBounds_toArray, List.set_cons_zero, List.set_cons_succ]
              refine wpAnyH_done (by kernel_rfl) ?_ _
              go_wp2
              go_roundw
              case rel => exact ⟨j + 1, _, by go_num, rfl, by omega, hsz, hbelN, HN⟩
              case measure => simp [intOf]; omega
            exact AllReadyH.nil
          exact AllReadyH.nil
        refine AllReadyH.cons (o := { dst := some 31, op := Op.call { callee := Callee.value (Operand.func 78), args := #[Operand.tmp 30, Operand.const (Value.int IntKind.i64 16)], argTypes := #[3, 3] }, type := 9, pos := "rules.go:263", after := #[{ on := 9, ground := Ground.data }], guard := none }) rfl (fun K hK => ?_) ?_
        · (go_simp; go_at_call 78; refine (binary_16 b _ hb16).mono ?_; rintro e w1 ⟨rfl, rfl⟩)
          refine hK.out _ _ (by first | assumption | exact HS.out _ ((Below.refl _ _).alloc (Nat.le_refl _) _).drew | exact HS.out _ ((Below.refl _ _).drew.alloc (by simp) _)) (fun hHeld1 => ?_)
          clear hK K
          try simp only [Act.put, List.setIfInBounds_toArray, List.set_cons_zero, List.set_cons_succ]
          refine wpAnyH_take (i := 14) (oi := { dst := some 35, op := Op.slice 9 (Operand.tmp 31) none (some (Operand.tmp 34)) none, type := 9, pos := "rules.go:263", after := #[{ on := 10, ground := Ground.data }, { on := 13, ground := Ground.data }], guard := none }) (v := ?_) rfl (by kernel_rfl) (by kernel_rfl) (by kernel_rfl) (fun _ _ _ h => h) (Or.inl ⟨by rfl, ?_⟩) (by assumption) ?_
          rotate_left
          · (intro w2 hSw; (try dsimp only at hSw); go_simp; try (first | with_reducible rfl | (refine (if_neg ?_).trans ?_; (first | omega | (simp only [ByteArray.size_append]; omega)); with_reducible rfl) | (refine (if_pos ?_).trans ?_; omega; with_reducible rfl)))
          try simp only [Act.put, List.setIfInBounds_toArray, List.set_cons_zero, List.set_cons_succ]
          refine wpAnyH_ready (rs := [4]) (by kernel_rfl) (by simp) ?_
          refine AllReadyH.cons (o := { dst := some 25, op := Op.buildSlice 146 1 #[(0, Operand.tmp 24)], type := 146, pos := "rules.go:263", after := #[{ on := 3, ground := Ground.data }], guard := none }) rfl (fun K hK => ?_) ?_
          · go_simp
            refine hK.out _ _ (by first | assumption | exact HS.out _ ((Below.refl _ _).alloc (Nat.le_refl _) _).drew | exact HS.out _ ((Below.refl _ _).drew.alloc (by simp) _)) (fun hHeld2 => ?_)
            clear hK K
            try simp only [Act.put, List.setIfInBounds_toArray, List.set_cons_zero, List.set_cons_succ]
            refine wpAnyH_ready (rs := [5]) (by kernel_rfl) (by simp) ?_
            refine AllReadyH.cons (o := { dst := some 26, op := Op.convert 146 9 (Operand.tmp 25), type := 9, pos := "rules.go:263", after := #[{ on := 4, ground := Ground.data }], guard := none }) rfl (fun K hK => ?_) ?_
            · go_simp
              refine hK.out _ _ (by first | assumption | exact HS.out _ ((Below.refl _ _).alloc (Nat.le_refl _) _).drew | exact HS.out _ ((Below.refl _ _).drew.alloc (by simp) _)) (fun hHeld3 => ?_)
              clear hK K
              try simp only [Act.put, List.setIfInBounds_toArray, List.set_cons_zero, List.set_cons_succ]
              refine wpAnyH_take (i := 6) (oi := { dst := some 27, op := Op.binOp BinOp.add 9 (Operand.tmp 21) (Operand.tmp 26) 9, type := 9, pos := "rules.go:263", after := #[{ on := 0, ground := Ground.data }, { on := 5, ground := Ground.data }], guard := none }) (v := ?_) rfl (by kernel_rfl) (by kernel_rfl) (by kernel_rfl) (fun _ _ _ h => h) (Or.inl ⟨by rfl, ?_⟩) (by assumption) ?_
              rotate_left
              · (intro w2 hSw; (try dsimp only at hSw); go_simp; try (first | with_reducible rfl | (refine (if_neg ?_).trans ?_; (first | omega | (simp only [ByteArray.size_append]; omega)); with_reducible rfl) | (refine (if_pos ?_).trans ?_; omega; with_reducible rfl)))
              try simp only [Act.put, List.setIfInBounds_toArray, List.set_cons_zero, List.set_cons_succ]
              refine wpAnyH_take (i := 15) (oi := { dst := some 36, op := Op.binOp BinOp.add 9 (Operand.tmp 27) (Operand.tmp 35) 9, type := 9, pos := "rules.go:263", after := #[{ on := 6, ground := Ground.data }, { on := 14, ground := Ground.data }], guard := none }) (v := ?_) rfl (by kernel_rfl) (by kernel_rfl) (by kernel_rfl) (fun _ _ _ h => h) (Or.inl ⟨by rfl, ?_⟩) (by assumption) ?_
              rotate_left
              · (intro w2 hSw; (try dsimp only at hSw); go_simp; try (first | with_reducible rfl | (refine (if_neg ?_).trans ?_; (first | omega | (simp only [ByteArray.size_append]; omega)); with_reducible rfl) | (refine (if_pos ?_).trans ?_; omega; with_reducible rfl)))
              try simp only [Act.put, List.setIfInBounds_toArray, List.set_cons_zero, List.set_cons_succ]
              refine wpAnyH_take (i := 16) (oi := { dst := some 37, op := Op.binOp BinOp.add 9 (Operand.tmp 36) (Operand.const (Value.string { data := #[50] })) 9, type := 9, pos := "rules.go:263", after := #[{ on := 15, ground := Ground.data }], guard := none }) (v := ?_) rfl (by kernel_rfl) (by kernel_rfl) (by kernel_rfl) (fun _ _ _ h => h) (Or.inl ⟨by rfl, ?_⟩) (by assumption) ?_
              rotate_left
              · (intro w2 hSw; (try dsimp only at hSw); go_simp; try (first | with_reducible rfl | (refine (if_neg ?_).trans ?_; (first | omega | (simp only [ByteArray.size_append]; omega)); with_reducible rfl) | (refine (if_pos ?_).trans ?_; omega; with_reducible rfl)))
              try simp only [Act.put, List.setIfInBounds_toArray, List.set_cons_zero, List.set_cons_succ]
              refine wpAnyH_take (i := 17) (oi := { dst := some 3, op := Op.assign (Operand.tmp 37), type := 9, pos := "rules.go:263", after := #[{ on := 16, ground := Ground.data }, { on := 10, ground := Ground.chain }, { on := 0, ground := Ground.phase }, { on := 1, ground := Ground.phase }, { on := 2, ground := Ground.phase }, { on := 3, ground := Ground.phase }, { on := 4, ground := Ground.phase }, { on := 5, ground := Ground.phase }, { on := 6, ground := Ground.phase }, { on := 7, ground := Ground.phase }, { on := 8, ground := Ground.phase }, { on := 9, ground := Ground.phase }, { on := 10, ground := Ground.phase }, { on := 11, ground := Ground.phase }, { on := 12, ground := Ground.phase }, { on := 13, ground := Ground.phase }, { on := 14, ground := Ground.phase }, { on := 15, ground := Ground.phase }, { on := 16, ground := Ground.phase }], guard := none }) (v := ?_) rfl (by kernel_rfl) (by kernel_rfl) (by kernel_rfl) (fun _ _ _ h => h) (Or.inl ⟨by rfl, ?_⟩) (by assumption) ?_
              rotate_left
              · (intro w2 hSw; (try dsimp only at hSw); go_simp; try (first | with_reducible rfl | (refine (if_neg ?_).trans ?_; (first | omega | (simp only [ByteArray.size_append]; omega)); with_reducible rfl) | (refine (if_pos ?_).trans ?_; omega; with_reducible rfl)))
              try simp only [Act.put, List.setIfInBounds_toArray, List.set_cons_zero, List.set_cons_succ]
              refine wpAnyH_done (by kernel_rfl) ?_ _
              go_wp2
              go_roundw
              case rel => exact ⟨j + 1, _, by go_num, rfl, by omega, hsz, hbelN, HN⟩
              case measure => simp [intOf]; omega
            exact AllReadyH.nil
          exact AllReadyH.nil
        exact AllReadyH.nil
    · have HN : Hid (bl acc = ps.flatMap keyL) := by show _ = _; rw [← H.out, List.drop_of_length_le (by omega)]; simp
      clear H ha
      go_wp2
      go_ret
      exact ⟨⟨_, rfl, by rw [bl_app, HN.out]; rfl, by rw [ByteArray.size_append]; show _ + 1 ≤ _; omega⟩, hb0⟩
end Go.Proofs.YtgkiknfpcbcnnaaGreat
