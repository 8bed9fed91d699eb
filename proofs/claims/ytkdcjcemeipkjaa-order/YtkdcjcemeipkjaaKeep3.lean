import Derived.Test.YtkdcjcemeipkjaaKeep2
namespace Go.Proofs.Ytkdcjcemeipkjaa
open Go.RowKit
set_option maxRecDepth 20000

/-- What the maker's terms work in: the maker; a row of bytes of its own. -/
structure TW (W0 : World) (M : Nat) (ao : Option Addr) (n cap : Nat) (w : World) (v : Value) (X : ByteArray) : Prop where
  mkr : Mk w M ao n cap
  gr : W0.grownBy w (some M)
  own : w.ownsRow W0.heap.size 5 1 v X.size (bv X)

theorem TW.pick {W0 : World} {M : Nat} {ao : Option Addr} {n cap : Nat} {w w' : World} {v : Value} {X : ByteArray} (hM : M < W0.heap.size) (h : TW W0 M ao n cap w v X) (hm : Mk w' M ao n cap) (hg : w.grownBy w' (some M)) : TW W0 M ao n cap w' v X :=
  ⟨hm, grownBy_trans h.gr hg, h.own.kept hg (by
    cases hv : v.ownBlock with
    | none => exact .inl rfl
    | some g => right; intro e; simp at e; have := (h.own.lt g hv).1; omega)⟩

theorem TW.byte {W0 : World} {M : Nat} {ao : Option Addr} {n cap : Nat} {w w1 : World} {v v1 : Value} {X : ByteArray} {o : Obj} {x m : Int} (hM : M < W0.heap.size) (h : TW W0 M ao n cap w v X) (hg : (w.alloc o).grownBy w1 v.ownBlock)
    (ho : w1.ownsRow W0.heap.size 5 1 v1 (X.size + 1) (bv X ++ [.int .u8 x])) (hx : x = m) (m0 : 0 ≤ m) (m1 : m ≤ 255) : TW W0 M ao n cap w1 v1 (X ++ ch m) := by
  subst hx
  have hr : ∀ k, v.ownBlock = some k → W0.heap.size ≤ k := fun k hk => (h.own.lt k hk).1
  refine ⟨(h.mkr.below (below_alloc w o)).row hg (fun k hk => by have := hr k hk; omega), ?_, owns_byte m0 m1 ho⟩
  have hs := h.gr.size
  refine ⟨hg.os.trans h.gr.os, hg.tape.trans h.gr.tape, hg.output.trans h.gr.output, by have := hg.size; simp at this; omega, fun k hk hne => ?_⟩
  rw [hg.block k (by simp; omega) (fun e => by have := hr k e.symm; omega)]
  exact (Below.heap_alloc w o k (by omega)).trans (h.gr.block k hk hne)

/-- Terms none of which is the last. -/
def wInit : List Tm → ByteArray
  | [] => ⟨#[]⟩
  | t :: r => wTerm t false ++ wInit r
theorem wInit_snoc (ts : List Tm) (t : Tm) : wInit (ts ++ [t]) = wInit ts ++ wTerm t false := by
  induction ts with
  | nil => simp [wInit, app_nil, nil_app]
  | cons a r ih => simp only [List.cons_append, wInit, ih, app_assoc]
theorem wInit_last (ts : List Tm) (t : Tm) : wInit ts ++ wTerm t true = wTerms (ts ++ [t]) := by
  induction ts with
  | nil => simp [wInit, wTerms, app_nil, nil_app]
  | cons a r ih =>
    have he : (r ++ [t]).isEmpty = false := by simp
    simp only [List.cons_append, wInit, wTerms, he, app_assoc, ih]
theorem wInit_size (ts : List Tm) : (wInit ts).size ≤ 3 * ts.length := by
  induction ts with
  | nil => exact Nat.zero_le _
  | cons t r ih => have := wTerm_size t false; simp only [wInit, ByteArray.size_append, List.length_cons]; omega

theorem allT_snoc (k : Int) (t : Tm) : ∀ (ts : List Tm) (f : Bool), allT k f ts = true → isT k t = true → (t.an && (f && ts.isEmpty)) = false → allT k f (ts ++ [t]) = true := by
  intro ts
  induction ts with
  | nil =>
    intro f _ ht hf
    simp only [List.isEmpty_nil, Bool.and_true] at hf
    simp [allT, ht, hf]
  | cons a r ih =>
    intro f h ht hf
    simp only [allT, Bool.and_eq_true] at h
    simp only [List.cons_append, allT, Bool.and_eq_true]
    exact ⟨h.1, ih false h.2 ht (by simp)⟩

theorem b2_dec (a n : Int) (h0 : 0 ≤ a) (h1 : a < 2) : b2 (decide (a = 1)) n = n * a := by
  have : a = 0 ∨ a = 1 := by omega
  rcases this with rfl | rfl <;> simp [b2]

theorem wTerm_thin (an : Bool) (op v : Int) (l : Bool) : wTerm ⟨an, false, op, v⟩ l = ch (mk ⟨an, false, op, 0⟩ l) ++ ch v := rfl
theorem wTerm_wide (an : Bool) (op : Int) (l : Bool) (x y : Int) (z : Int) (y0 : 0 ≤ y) (y1 : y < 256) : wTerm ⟨an, true, op, x * 256 + y⟩ l = ch (mk ⟨an, true, op, z⟩ l) ++ (ch x ++ ch y) := by
  have e1 : (x * 256 + y) / 256 = x := by omega
  have e2 : (x * 256 + y) % 256 = y := by omega
  show ch _ ++ (ch ((x * 256 + y) / 256) ++ ch ((x * 256 + y) % 256)) = _
  rw [e1, e2]; rfl

set_option maxHeartbeats 6400000 in
theorem termsM_any (M : Nat) (ao : Option Addr) (n cap : Nat) (k : Int) (w : World) (hk : 3 ≤ k ∧ k ≤ 5) (h : Mk w M ao n cap) :
    Calls Try.prog 42 #[.pointer (some ⟨M, 0, none⟩), .int .i64 k] w fun e w' => ∃ ts : List Tm, e = .returned (.string (ch k ++ wTerms ts)) ∧ 1 ≤ ts.length ∧ ts.length ≤ 8 ∧ allT k true ts = true ∧ Mk w' M ao n cap ∧ w.grownBy w' (some M) := by
  obtain ⟨i0, hi, hz0, hz1, hz2⟩ := info_parts infoByte
  obtain ⟨k0, k1⟩ := hk
  have hM : M < w.heap.size := by obtain ⟨a, _, hb⟩ := h.box; exact lt_of_block hb
  have ek : k % 256 = k := by omega
  go_enter Try.func42, Try.ntmps42
  go_wp2_with fail
  refine (pickM_any M ao n cap 8 _ (by omega) (by omega) h).mono ?_
  rintro e w0 ⟨c, rfl, c0, c1, hm0, hg0⟩
  have hTs : TW w M ao n cap (w0.alloc (.cells #[.int .u8 k] 5)) (.slice (some ⟨w0.heap.size, 0, none⟩) 1 1) (ch k) :=
    ⟨hm0.below (below_alloc _ _), grownBy_trans hg0 (World.grownBy_alloc _ _ _), owns_one w0 w.heap.size k (by omega) (by omega) hg0.size⟩
  clear hm0 hg0
  go_wp2_with fail
  go_loopw [6, 7] (fun v i wr => ∃ (j : Nat) (X : ByteArray) (ts : List Tm), i = .int .i64 j ∧ (j : Int) ≤ 1 + c ∧ ts.length = j ∧ TW w M ao n cap wr v X ∧ allT k true ts = true ∧ Hid ((j : Int) < 1 + c → X = ch k ++ wInit ts) ∧ Hid ((j : Int) = 1 + c → X = ch k ++ wTerms ts)) (fun _ i _ => (1 + c).toNat - (intOf i).toNat)
  case atStart => exact ⟨0, ch k, [], rfl, by omega, rfl, hTs, rfl, fun _ => (app_nil _).symm, fun h => by exfalso; simp at h; omega⟩
  case round =>
    obtain ⟨j, X, ts, rfl, hj, hlen, hT, hall, hXi, hXt⟩ := hrel
    clear hTs
    by_cases hlt : (j : Int) < 1 + c
    · have hX : X.size ≤ 1 + 3 * j := by rw [hXi.out hlt, ByteArray.size_append, ch_size]; have := wInit_size ts; omega
      by_cases hk5 : k = 5
      · subst hk5
        by_cases hj0 : j = 0
        · have hz : ((j : Int) == 0) = true := by simp [hj0]
          by_cases hl : (j : Int) = 1 + c - 1
          · have hl' : ((j : Int) == 1 + c - 1) = true := by simpa using hl
            go_wp2_with fail
            refine (pickM_any M ao n cap 2 _ (by omega) (by omega) hT.mkr).mono ?_
            rintro e w1 ⟨a, rfl, a0, a1, hm_a, hg_a⟩
            have hT1 := hT.pick hM hm_a hg_a
            clear hm_a hg_a
            go_wp2_with fail
            refine (pickM_any M ao n cap 2 _ (by omega) (by omega) hT1.mkr).mono ?_
            rintro e w2 ⟨wd, rfl, wd0, wd1, hm_wd, hg_wd⟩
            have hT2 := hT1.pick hM hm_wd hg_wd
            clear hm_wd hg_wd
            go_wp2_with fail
            refine (pickM_any M ao n cap 8 _ (by omega) (by omega) hT2.mkr).mono ?_
            rintro e w3 ⟨op, rfl, op0, op1, hm_op, hg_op⟩
            have hT3 := hT2.pick hM hm_op hg_op
            clear hm_op hg_op
            go_wp2_with (at_builtin; refine wpList_append_own _ rfl _ _ 90 rfl w.heap.size 5 i0 _ 1 1 Try.underlying90 hi hz0 hz1 hz2 rfl (by decide) _ _ _ rfl (hT3.own.alloc _) ⟨w3.heap.size, 0, none⟩ 1 1 [.int .u8 _] rfl rfl (cell_one_new _ _ _ _ rfl) (int_one _ _) (by unfold maxLen; omega) (by omega) (by have := hT3.gr.size; simp; omega) ?_; intro v4 w4 ho4 hg4 _)
            have hmk : mk (⟨false, false, (op % 4), 0⟩ : Tm) true = op % 4 + 0 + 0 + 128 := by rfl
            have hT4 := hT3.byte hM hg4 ho4 (m := mk (⟨false, false, (op % 4), 0⟩ : Tm) true) (by rw [hmk]; omega) (by rw [hmk]; omega) (by rw [hmk]; omega)
            clear hg4 ho4 hmk
            go_wp2_with fail
            refine (pickM_any M ao n cap 256 _ (by omega) (by omega) hT4.mkr).mono ?_
            rintro e w7 ⟨y, rfl, y0, y1, hm_y, hg_y⟩
            have hT7 := hT4.pick hM hm_y hg_y
            clear hm_y hg_y
            go_wp2_with (at_builtin; refine wpList_append_own _ rfl _ _ 90 rfl w.heap.size 5 i0 _ 1 1 Try.underlying90 hi hz0 hz1 hz2 rfl (by decide) _ _ _ rfl (hT7.own.alloc _) ⟨w7.heap.size, 0, none⟩ 1 1 [.int .u8 _] rfl rfl (cell_one_new _ _ _ _ rfl) (int_one _ _) (by unfold maxLen; simp only [ByteArray.size_append, ch_size]; omega) (by simp only [ByteArray.size_append, ch_size]; omega) (by have := hT7.gr.size; simp; omega) ?_; intro v8 w8 ho8 hg8 _)
            have hT8 := hT7.byte hM hg8 ho8 (m := y) (by omega) (by omega) (by omega)
            clear hg8 ho8
            go_roundw
            case rel =>
              refine ⟨j + 1, X ++ wTerm (⟨false, false, (op % 4), y⟩ : Tm) true, ts ++ [⟨false, false, (op % 4), y⟩], by go_num, by omega, by simp; omega, ?_, ?_, ?_, ?_⟩
              · have e : X ++ wTerm (⟨false, false, (op % 4), y⟩ : Tm) true = X ++ ch (mk (⟨false, false, (op % 4), 0⟩ : Tm) true) ++ ch y := by rw [wTerm_thin]; simp only [app_assoc]
                rw [e]; exact hT8
              · refine allT_snoc _ _ _ _ hall ?_ ?_
                · simp [isT, opM, mxV]; omega
                · rfl
              · exact fun hlt => by exfalso; omega
              · exact fun he => by rw [← wInit_last, ← app_assoc, ← hXi.out (by omega)]
            case measure => simp [intOf]; omega
          · have hl' : ((j : Int) == 1 + c - 1) = false := by simpa using hl
            go_wp2_with fail
            refine (pickM_any M ao n cap 2 _ (by omega) (by omega) hT.mkr).mono ?_
            rintro e w1 ⟨a, rfl, a0, a1, hm_a, hg_a⟩
            have hT1 := hT.pick hM hm_a hg_a
            clear hm_a hg_a
            go_wp2_with fail
            refine (pickM_any M ao n cap 2 _ (by omega) (by omega) hT1.mkr).mono ?_
            rintro e w2 ⟨wd, rfl, wd0, wd1, hm_wd, hg_wd⟩
            have hT2 := hT1.pick hM hm_wd hg_wd
            clear hm_wd hg_wd
            go_wp2_with fail
            refine (pickM_any M ao n cap 8 _ (by omega) (by omega) hT2.mkr).mono ?_
            rintro e w3 ⟨op, rfl, op0, op1, hm_op, hg_op⟩
            have hT3 := hT2.pick hM hm_op hg_op
            clear hm_op hg_op
            go_wp2_with (at_builtin; refine wpList_append_own _ rfl _ _ 90 rfl w.heap.size 5 i0 _ 1 1 Try.underlying90 hi hz0 hz1 hz2 rfl (by decide) _ _ _ rfl (hT3.own.alloc _) ⟨w3.heap.size, 0, none⟩ 1 1 [.int .u8 _] rfl rfl (cell_one_new _ _ _ _ rfl) (int_one _ _) (by unfold maxLen; omega) (by omega) (by have := hT3.gr.size; simp; omega) ?_; intro v4 w4 ho4 hg4 _)
            have hmk : mk (⟨false, false, (op % 4), 0⟩ : Tm) false = op % 4 + 0 + 0 + 0 := by rfl
            have hT4 := hT3.byte hM hg4 ho4 (m := mk (⟨false, false, (op % 4), 0⟩ : Tm) false) (by rw [hmk]; omega) (by rw [hmk]; omega) (by rw [hmk]; omega)
            clear hg4 ho4 hmk
            go_wp2_with fail
            refine (pickM_any M ao n cap 256 _ (by omega) (by omega) hT4.mkr).mono ?_
            rintro e w7 ⟨y, rfl, y0, y1, hm_y, hg_y⟩
            have hT7 := hT4.pick hM hm_y hg_y
            clear hm_y hg_y
            go_wp2_with (at_builtin; refine wpList_append_own _ rfl _ _ 90 rfl w.heap.size 5 i0 _ 1 1 Try.underlying90 hi hz0 hz1 hz2 rfl (by decide) _ _ _ rfl (hT7.own.alloc _) ⟨w7.heap.size, 0, none⟩ 1 1 [.int .u8 _] rfl rfl (cell_one_new _ _ _ _ rfl) (int_one _ _) (by unfold maxLen; simp only [ByteArray.size_append, ch_size]; omega) (by simp only [ByteArray.size_append, ch_size]; omega) (by have := hT7.gr.size; simp; omega) ?_; intro v8 w8 ho8 hg8 _)
            have hT8 := hT7.byte hM hg8 ho8 (m := y) (by omega) (by omega) (by omega)
            clear hg8 ho8
            go_roundw
            case rel =>
              refine ⟨j + 1, X ++ wTerm (⟨false, false, (op % 4), y⟩ : Tm) false, ts ++ [⟨false, false, (op % 4), y⟩], by go_num, by omega, by simp; omega, ?_, ?_, ?_, ?_⟩
              · have e : X ++ wTerm (⟨false, false, (op % 4), y⟩ : Tm) false = X ++ ch (mk (⟨false, false, (op % 4), 0⟩ : Tm) false) ++ ch y := by rw [wTerm_thin]; simp only [app_assoc]
                rw [e]; exact hT8
              · refine allT_snoc _ _ _ _ hall ?_ ?_
                · simp [isT, opM, mxV]; omega
                · rfl
              · exact fun hlt => by rw [wInit_snoc, ← app_assoc, ← hXi.out (by omega)]
              · exact fun he => by exfalso; omega
            case measure => simp [intOf]; omega
        · have hz : ((j : Int) == 0) = false := by simp; omega
          by_cases hl : (j : Int) = 1 + c - 1
          · have hl' : ((j : Int) == 1 + c - 1) = true := by simpa using hl
            go_wp2_with fail
            refine (pickM_any M ao n cap 2 _ (by omega) (by omega) hT.mkr).mono ?_
            rintro e w1 ⟨a, rfl, a0, a1, hm_a, hg_a⟩
            have hT1 := hT.pick hM hm_a hg_a
            clear hm_a hg_a
            go_wp2_with fail
            refine (pickM_any M ao n cap 2 _ (by omega) (by omega) hT1.mkr).mono ?_
            rintro e w2 ⟨wd, rfl, wd0, wd1, hm_wd, hg_wd⟩
            have hT2 := hT1.pick hM hm_wd hg_wd
            clear hm_wd hg_wd
            go_wp2_with fail
            refine (pickM_any M ao n cap 8 _ (by omega) (by omega) hT2.mkr).mono ?_
            rintro e w3 ⟨op, rfl, op0, op1, hm_op, hg_op⟩
            have hT3 := hT2.pick hM hm_op hg_op
            clear hm_op hg_op
            go_wp2_with (at_builtin; refine wpList_append_own _ rfl _ _ 90 rfl w.heap.size 5 i0 _ 1 1 Try.underlying90 hi hz0 hz1 hz2 rfl (by decide) _ _ _ rfl (hT3.own.alloc _) ⟨w3.heap.size, 0, none⟩ 1 1 [.int .u8 _] rfl rfl (cell_one_new _ _ _ _ rfl) (int_one _ _) (by unfold maxLen; omega) (by omega) (by have := hT3.gr.size; simp; omega) ?_; intro v4 w4 ho4 hg4 _)
            have hmk : mk (⟨(decide (a = 1)), false, (op % 4), 0⟩ : Tm) true = op % 4 + 64 * a + 0 + 128 := by show _ + b2 (decide (a = 1)) 64 + _ + _ = _; rw [b2_dec a 64 a0 a1]; rfl
            have hT4 := hT3.byte hM hg4 ho4 (m := mk (⟨(decide (a = 1)), false, (op % 4), 0⟩ : Tm) true) (by rw [hmk]; omega) (by rw [hmk]; omega) (by rw [hmk]; omega)
            clear hg4 ho4 hmk
            go_wp2_with fail
            refine (pickM_any M ao n cap 256 _ (by omega) (by omega) hT4.mkr).mono ?_
            rintro e w7 ⟨y, rfl, y0, y1, hm_y, hg_y⟩
            have hT7 := hT4.pick hM hm_y hg_y
            clear hm_y hg_y
            go_wp2_with (at_builtin; refine wpList_append_own _ rfl _ _ 90 rfl w.heap.size 5 i0 _ 1 1 Try.underlying90 hi hz0 hz1 hz2 rfl (by decide) _ _ _ rfl (hT7.own.alloc _) ⟨w7.heap.size, 0, none⟩ 1 1 [.int .u8 _] rfl rfl (cell_one_new _ _ _ _ rfl) (int_one _ _) (by unfold maxLen; simp only [ByteArray.size_append, ch_size]; omega) (by simp only [ByteArray.size_append, ch_size]; omega) (by have := hT7.gr.size; simp; omega) ?_; intro v8 w8 ho8 hg8 _)
            have hT8 := hT7.byte hM hg8 ho8 (m := y) (by omega) (by omega) (by omega)
            clear hg8 ho8
            go_roundw
            case rel =>
              refine ⟨j + 1, X ++ wTerm (⟨(decide (a = 1)), false, (op % 4), y⟩ : Tm) true, ts ++ [⟨(decide (a = 1)), false, (op % 4), y⟩], by go_num, by omega, by simp; omega, ?_, ?_, ?_, ?_⟩
              · have e : X ++ wTerm (⟨(decide (a = 1)), false, (op % 4), y⟩ : Tm) true = X ++ ch (mk (⟨(decide (a = 1)), false, (op % 4), 0⟩ : Tm) true) ++ ch y := by rw [wTerm_thin]; simp only [app_assoc]
                rw [e]; exact hT8
              · refine allT_snoc _ _ _ _ hall ?_ ?_
                · simp [isT, opM, mxV]; omega
                · have : ts.isEmpty = false := by cases ts <;> simp_all
                  simp [this]
              · exact fun hlt => by exfalso; omega
              · exact fun he => by rw [← wInit_last, ← app_assoc, ← hXi.out (by omega)]
            case measure => simp [intOf]; omega
          · have hl' : ((j : Int) == 1 + c - 1) = false := by simpa using hl
            go_wp2_with fail
            refine (pickM_any M ao n cap 2 _ (by omega) (by omega) hT.mkr).mono ?_
            rintro e w1 ⟨a, rfl, a0, a1, hm_a, hg_a⟩
            have hT1 := hT.pick hM hm_a hg_a
            clear hm_a hg_a
            go_wp2_with fail
            refine (pickM_any M ao n cap 2 _ (by omega) (by omega) hT1.mkr).mono ?_
            rintro e w2 ⟨wd, rfl, wd0, wd1, hm_wd, hg_wd⟩
            have hT2 := hT1.pick hM hm_wd hg_wd
            clear hm_wd hg_wd
            go_wp2_with fail
            refine (pickM_any M ao n cap 8 _ (by omega) (by omega) hT2.mkr).mono ?_
            rintro e w3 ⟨op, rfl, op0, op1, hm_op, hg_op⟩
            have hT3 := hT2.pick hM hm_op hg_op
            clear hm_op hg_op
            go_wp2_with (at_builtin; refine wpList_append_own _ rfl _ _ 90 rfl w.heap.size 5 i0 _ 1 1 Try.underlying90 hi hz0 hz1 hz2 rfl (by decide) _ _ _ rfl (hT3.own.alloc _) ⟨w3.heap.size, 0, none⟩ 1 1 [.int .u8 _] rfl rfl (cell_one_new _ _ _ _ rfl) (int_one _ _) (by unfold maxLen; omega) (by omega) (by have := hT3.gr.size; simp; omega) ?_; intro v4 w4 ho4 hg4 _)
            have hmk : mk (⟨(decide (a = 1)), false, (op % 4), 0⟩ : Tm) false = op % 4 + 64 * a + 0 + 0 := by show _ + b2 (decide (a = 1)) 64 + _ + _ = _; rw [b2_dec a 64 a0 a1]; rfl
            have hT4 := hT3.byte hM hg4 ho4 (m := mk (⟨(decide (a = 1)), false, (op % 4), 0⟩ : Tm) false) (by rw [hmk]; omega) (by rw [hmk]; omega) (by rw [hmk]; omega)
            clear hg4 ho4 hmk
            go_wp2_with fail
            refine (pickM_any M ao n cap 256 _ (by omega) (by omega) hT4.mkr).mono ?_
            rintro e w7 ⟨y, rfl, y0, y1, hm_y, hg_y⟩
            have hT7 := hT4.pick hM hm_y hg_y
            clear hm_y hg_y
            go_wp2_with (at_builtin; refine wpList_append_own _ rfl _ _ 90 rfl w.heap.size 5 i0 _ 1 1 Try.underlying90 hi hz0 hz1 hz2 rfl (by decide) _ _ _ rfl (hT7.own.alloc _) ⟨w7.heap.size, 0, none⟩ 1 1 [.int .u8 _] rfl rfl (cell_one_new _ _ _ _ rfl) (int_one _ _) (by unfold maxLen; simp only [ByteArray.size_append, ch_size]; omega) (by simp only [ByteArray.size_append, ch_size]; omega) (by have := hT7.gr.size; simp; omega) ?_; intro v8 w8 ho8 hg8 _)
            have hT8 := hT7.byte hM hg8 ho8 (m := y) (by omega) (by omega) (by omega)
            clear hg8 ho8
            go_roundw
            case rel =>
              refine ⟨j + 1, X ++ wTerm (⟨(decide (a = 1)), false, (op % 4), y⟩ : Tm) false, ts ++ [⟨(decide (a = 1)), false, (op % 4), y⟩], by go_num, by omega, by simp; omega, ?_, ?_, ?_, ?_⟩
              · have e : X ++ wTerm (⟨(decide (a = 1)), false, (op % 4), y⟩ : Tm) false = X ++ ch (mk (⟨(decide (a = 1)), false, (op % 4), 0⟩ : Tm) false) ++ ch y := by rw [wTerm_thin]; simp only [app_assoc]
                rw [e]; exact hT8
              · refine allT_snoc _ _ _ _ hall ?_ ?_
                · simp [isT, opM, mxV]; omega
                · have : ts.isEmpty = false := by cases ts <;> simp_all
                  simp [this]
              · exact fun hlt => by rw [wInit_snoc, ← app_assoc, ← hXi.out (by omega)]
              · exact fun he => by exfalso; omega
            case measure => simp [intOf]; omega
      · have hkk : (k == 5) = false := by simpa using hk5
        by_cases hj0 : j = 0
        · have hz : ((j : Int) == 0) = true := by simp [hj0]
          by_cases hl : (j : Int) = 1 + c - 1
          · have hl' : ((j : Int) == 1 + c - 1) = true := by simpa using hl
            go_wp2_with fail
            refine (pickM_any M ao n cap 2 _ (by omega) (by omega) hT.mkr).mono ?_
            rintro e w1 ⟨a, rfl, a0, a1, hm_a, hg_a⟩
            have hT1 := hT.pick hM hm_a hg_a
            clear hm_a hg_a
            go_wp2_with fail
            refine (pickM_any M ao n cap 2 _ (by omega) (by omega) hT1.mkr).mono ?_
            rintro e w2 ⟨wd, rfl, wd0, wd1, hm_wd, hg_wd⟩
            have hT2 := hT1.pick hM hm_wd hg_wd
            clear hm_wd hg_wd
            go_wp2_with fail
            refine (pickM_any M ao n cap 8 _ (by omega) (by omega) hT2.mkr).mono ?_
            rintro e w3 ⟨op, rfl, op0, op1, hm_op, hg_op⟩
            have hT3 := hT2.pick hM hm_op hg_op
            clear hm_op hg_op
            have hwd : wd = 0 ∨ wd = 1 := by omega
            rcases hwd with rfl | rfl
            · go_wp2_with (at_builtin; refine wpList_append_own _ rfl _ _ 90 rfl w.heap.size 5 i0 _ 1 1 Try.underlying90 hi hz0 hz1 hz2 rfl (by decide) _ _ _ rfl (hT3.own.alloc _) ⟨w3.heap.size, 0, none⟩ 1 1 [.int .u8 _] rfl rfl (cell_one_new _ _ _ _ rfl) (int_one _ _) (by unfold maxLen; omega) (by omega) (by have := hT3.gr.size; simp; omega) ?_; intro v4 w4 ho4 hg4 _)
              have hmk : mk (⟨false, false, op, 0⟩ : Tm) true = op + 0 + 0 + 128 := by rfl
              have hT4 := hT3.byte hM hg4 ho4 (m := mk (⟨false, false, op, 0⟩ : Tm) true) (by rw [hmk]; omega) (by rw [hmk]; omega) (by rw [hmk]; omega)
              clear hg4 ho4 hmk
              go_wp2_with fail
              refine (pickM_any M ao n cap 256 _ (by omega) (by omega) hT4.mkr).mono ?_
              rintro e w7 ⟨y, rfl, y0, y1, hm_y, hg_y⟩
              have hT7 := hT4.pick hM hm_y hg_y
              clear hm_y hg_y
              go_wp2_with (at_builtin; refine wpList_append_own _ rfl _ _ 90 rfl w.heap.size 5 i0 _ 1 1 Try.underlying90 hi hz0 hz1 hz2 rfl (by decide) _ _ _ rfl (hT7.own.alloc _) ⟨w7.heap.size, 0, none⟩ 1 1 [.int .u8 _] rfl rfl (cell_one_new _ _ _ _ rfl) (int_one _ _) (by unfold maxLen; simp only [ByteArray.size_append, ch_size]; omega) (by simp only [ByteArray.size_append, ch_size]; omega) (by have := hT7.gr.size; simp; omega) ?_; intro v8 w8 ho8 hg8 _)
              have hT8 := hT7.byte hM hg8 ho8 (m := y) (by omega) (by omega) (by omega)
              clear hg8 ho8
              go_roundw
              case rel =>
                refine ⟨j + 1, X ++ wTerm (⟨false, false, op, y⟩ : Tm) true, ts ++ [⟨false, false, op, y⟩], by go_num, by omega, by simp; omega, ?_, ?_, ?_, ?_⟩
                · have e : X ++ wTerm (⟨false, false, op, y⟩ : Tm) true = X ++ ch (mk (⟨false, false, op, 0⟩ : Tm) true) ++ ch y := by rw [wTerm_thin]; simp only [app_assoc]
                  rw [e]; exact hT8
                · refine allT_snoc _ _ _ _ hall ?_ ?_
                  · simp [isT, opM, mxV, hk5]; omega
                  · rfl
                · exact fun hlt => by exfalso; omega
                · exact fun he => by rw [← wInit_last, ← app_assoc, ← hXi.out (by omega)]
              case measure => simp [intOf]; omega
            · go_wp2_with (at_builtin; refine wpList_append_own _ rfl _ _ 90 rfl w.heap.size 5 i0 _ 1 1 Try.underlying90 hi hz0 hz1 hz2 rfl (by decide) _ _ _ rfl (hT3.own.alloc _) ⟨w3.heap.size, 0, none⟩ 1 1 [.int .u8 _] rfl rfl (cell_one_new _ _ _ _ rfl) (int_one _ _) (by unfold maxLen; omega) (by omega) (by have := hT3.gr.size; simp; omega) ?_; intro v4 w4 ho4 hg4 _)
              have hmk : mk (⟨false, true, op, 0⟩ : Tm) true = op + 0 + 16 + 128 := by rfl
              have hT4 := hT3.byte hM hg4 ho4 (m := mk (⟨false, true, op, 0⟩ : Tm) true) (by rw [hmk]; omega) (by rw [hmk]; omega) (by rw [hmk]; omega)
              clear hg4 ho4 hmk
              go_wp2_with fail
              refine (pickM_any M ao n cap 256 _ (by omega) (by omega) hT4.mkr).mono ?_
              rintro e w5 ⟨x, rfl, x0, x1, hm_x, hg_x⟩
              have hT5 := hT4.pick hM hm_x hg_x
              clear hm_x hg_x
              go_wp2_with (at_builtin; refine wpList_append_own _ rfl _ _ 90 rfl w.heap.size 5 i0 _ 1 1 Try.underlying90 hi hz0 hz1 hz2 rfl (by decide) _ _ _ rfl (hT5.own.alloc _) ⟨w5.heap.size, 0, none⟩ 1 1 [.int .u8 _] rfl rfl (cell_one_new _ _ _ _ rfl) (int_one _ _) (by unfold maxLen; simp only [ByteArray.size_append, ch_size]; omega) (by simp only [ByteArray.size_append, ch_size]; omega) (by have := hT5.gr.size; simp; omega) ?_; intro v6 w6 ho6 hg6 _)
              have hT6 := hT5.byte hM hg6 ho6 (m := x) (by omega) (by omega) (by omega)
              clear hg6 ho6
              go_wp2_with fail
              refine (pickM_any M ao n cap 256 _ (by omega) (by omega) hT6.mkr).mono ?_
              rintro e w7 ⟨y, rfl, y0, y1, hm_y, hg_y⟩
              have hT7 := hT6.pick hM hm_y hg_y
              clear hm_y hg_y
              go_wp2_with (at_builtin; refine wpList_append_own _ rfl _ _ 90 rfl w.heap.size 5 i0 _ 1 1 Try.underlying90 hi hz0 hz1 hz2 rfl (by decide) _ _ _ rfl (hT7.own.alloc _) ⟨w7.heap.size, 0, none⟩ 1 1 [.int .u8 _] rfl rfl (cell_one_new _ _ _ _ rfl) (int_one _ _) (by unfold maxLen; simp only [ByteArray.size_append, ch_size]; omega) (by simp only [ByteArray.size_append, ch_size]; omega) (by have := hT7.gr.size; simp; omega) ?_; intro v8 w8 ho8 hg8 _)
              have hT8 := hT7.byte hM hg8 ho8 (m := y) (by omega) (by omega) (by omega)
              clear hg8 ho8
              go_roundw
              case rel =>
                refine ⟨j + 1, X ++ wTerm (⟨false, true, op, (x * 256 + y)⟩ : Tm) true, ts ++ [⟨false, true, op, (x * 256 + y)⟩], by go_num, by omega, by simp; omega, ?_, ?_, ?_, ?_⟩
                · have e : X ++ wTerm (⟨false, true, op, (x * 256 + y)⟩ : Tm) true = X ++ ch (mk (⟨false, true, op, 0⟩ : Tm) true) ++ ch x ++ ch y := by rw [wTerm_wide _ _ _ x y 0 y0 y1]; simp only [app_assoc]
                  rw [e]; exact hT8
                · refine allT_snoc _ _ _ _ hall ?_ ?_
                  · simp [isT, opM, mxV, hk5]; omega
                  · rfl
                · exact fun hlt => by exfalso; omega
                · exact fun he => by rw [← wInit_last, ← app_assoc, ← hXi.out (by omega)]
              case measure => simp [intOf]; omega
          · have hl' : ((j : Int) == 1 + c - 1) = false := by simpa using hl
            go_wp2_with fail
            refine (pickM_any M ao n cap 2 _ (by omega) (by omega) hT.mkr).mono ?_
            rintro e w1 ⟨a, rfl, a0, a1, hm_a, hg_a⟩
            have hT1 := hT.pick hM hm_a hg_a
            clear hm_a hg_a
            go_wp2_with fail
            refine (pickM_any M ao n cap 2 _ (by omega) (by omega) hT1.mkr).mono ?_
            rintro e w2 ⟨wd, rfl, wd0, wd1, hm_wd, hg_wd⟩
            have hT2 := hT1.pick hM hm_wd hg_wd
            clear hm_wd hg_wd
            go_wp2_with fail
            refine (pickM_any M ao n cap 8 _ (by omega) (by omega) hT2.mkr).mono ?_
            rintro e w3 ⟨op, rfl, op0, op1, hm_op, hg_op⟩
            have hT3 := hT2.pick hM hm_op hg_op
            clear hm_op hg_op
            have hwd : wd = 0 ∨ wd = 1 := by omega
            rcases hwd with rfl | rfl
            · go_wp2_with (at_builtin; refine wpList_append_own _ rfl _ _ 90 rfl w.heap.size 5 i0 _ 1 1 Try.underlying90 hi hz0 hz1 hz2 rfl (by decide) _ _ _ rfl (hT3.own.alloc _) ⟨w3.heap.size, 0, none⟩ 1 1 [.int .u8 _] rfl rfl (cell_one_new _ _ _ _ rfl) (int_one _ _) (by unfold maxLen; omega) (by omega) (by have := hT3.gr.size; simp; omega) ?_; intro v4 w4 ho4 hg4 _)
              have hmk : mk (⟨false, false, op, 0⟩ : Tm) false = op + 0 + 0 + 0 := by rfl
              have hT4 := hT3.byte hM hg4 ho4 (m := mk (⟨false, false, op, 0⟩ : Tm) false) (by rw [hmk]; omega) (by rw [hmk]; omega) (by rw [hmk]; omega)
              clear hg4 ho4 hmk
              go_wp2_with fail
              refine (pickM_any M ao n cap 256 _ (by omega) (by omega) hT4.mkr).mono ?_
              rintro e w7 ⟨y, rfl, y0, y1, hm_y, hg_y⟩
              have hT7 := hT4.pick hM hm_y hg_y
              clear hm_y hg_y
              go_wp2_with (at_builtin; refine wpList_append_own _ rfl _ _ 90 rfl w.heap.size 5 i0 _ 1 1 Try.underlying90 hi hz0 hz1 hz2 rfl (by decide) _ _ _ rfl (hT7.own.alloc _) ⟨w7.heap.size, 0, none⟩ 1 1 [.int .u8 _] rfl rfl (cell_one_new _ _ _ _ rfl) (int_one _ _) (by unfold maxLen; simp only [ByteArray.size_append, ch_size]; omega) (by simp only [ByteArray.size_append, ch_size]; omega) (by have := hT7.gr.size; simp; omega) ?_; intro v8 w8 ho8 hg8 _)
              have hT8 := hT7.byte hM hg8 ho8 (m := y) (by omega) (by omega) (by omega)
              clear hg8 ho8
              go_roundw
              case rel =>
                refine ⟨j + 1, X ++ wTerm (⟨false, false, op, y⟩ : Tm) false, ts ++ [⟨false, false, op, y⟩], by go_num, by omega, by simp; omega, ?_, ?_, ?_, ?_⟩
                · have e : X ++ wTerm (⟨false, false, op, y⟩ : Tm) false = X ++ ch (mk (⟨false, false, op, 0⟩ : Tm) false) ++ ch y := by rw [wTerm_thin]; simp only [app_assoc]
                  rw [e]; exact hT8
                · refine allT_snoc _ _ _ _ hall ?_ ?_
                  · simp [isT, opM, mxV, hk5]; omega
                  · rfl
                · exact fun hlt => by rw [wInit_snoc, ← app_assoc, ← hXi.out (by omega)]
                · exact fun he => by exfalso; omega
              case measure => simp [intOf]; omega
            · go_wp2_with (at_builtin; refine wpList_append_own _ rfl _ _ 90 rfl w.heap.size 5 i0 _ 1 1 Try.underlying90 hi hz0 hz1 hz2 rfl (by decide) _ _ _ rfl (hT3.own.alloc _) ⟨w3.heap.size, 0, none⟩ 1 1 [.int .u8 _] rfl rfl (cell_one_new _ _ _ _ rfl) (int_one _ _) (by unfold maxLen; omega) (by omega) (by have := hT3.gr.size; simp; omega) ?_; intro v4 w4 ho4 hg4 _)
              have hmk : mk (⟨false, true, op, 0⟩ : Tm) false = op + 0 + 16 + 0 := by rfl
              have hT4 := hT3.byte hM hg4 ho4 (m := mk (⟨false, true, op, 0⟩ : Tm) false) (by rw [hmk]; omega) (by rw [hmk]; omega) (by rw [hmk]; omega)
              clear hg4 ho4 hmk
              go_wp2_with fail
              refine (pickM_any M ao n cap 256 _ (by omega) (by omega) hT4.mkr).mono ?_
              rintro e w5 ⟨x, rfl, x0, x1, hm_x, hg_x⟩
              have hT5 := hT4.pick hM hm_x hg_x
              clear hm_x hg_x
              go_wp2_with (at_builtin; refine wpList_append_own _ rfl _ _ 90 rfl w.heap.size 5 i0 _ 1 1 Try.underlying90 hi hz0 hz1 hz2 rfl (by decide) _ _ _ rfl (hT5.own.alloc _) ⟨w5.heap.size, 0, none⟩ 1 1 [.int .u8 _] rfl rfl (cell_one_new _ _ _ _ rfl) (int_one _ _) (by unfold maxLen; simp only [ByteArray.size_append, ch_size]; omega) (by simp only [ByteArray.size_append, ch_size]; omega) (by have := hT5.gr.size; simp; omega) ?_; intro v6 w6 ho6 hg6 _)
              have hT6 := hT5.byte hM hg6 ho6 (m := x) (by omega) (by omega) (by omega)
              clear hg6 ho6
              go_wp2_with fail
              refine (pickM_any M ao n cap 256 _ (by omega) (by omega) hT6.mkr).mono ?_
              rintro e w7 ⟨y, rfl, y0, y1, hm_y, hg_y⟩
              have hT7 := hT6.pick hM hm_y hg_y
              clear hm_y hg_y
              go_wp2_with (at_builtin; refine wpList_append_own _ rfl _ _ 90 rfl w.heap.size 5 i0 _ 1 1 Try.underlying90 hi hz0 hz1 hz2 rfl (by decide) _ _ _ rfl (hT7.own.alloc _) ⟨w7.heap.size, 0, none⟩ 1 1 [.int .u8 _] rfl rfl (cell_one_new _ _ _ _ rfl) (int_one _ _) (by unfold maxLen; simp only [ByteArray.size_append, ch_size]; omega) (by simp only [ByteArray.size_append, ch_size]; omega) (by have := hT7.gr.size; simp; omega) ?_; intro v8 w8 ho8 hg8 _)
              have hT8 := hT7.byte hM hg8 ho8 (m := y) (by omega) (by omega) (by omega)
              clear hg8 ho8
              go_roundw
              case rel =>
                refine ⟨j + 1, X ++ wTerm (⟨false, true, op, (x * 256 + y)⟩ : Tm) false, ts ++ [⟨false, true, op, (x * 256 + y)⟩], by go_num, by omega, by simp; omega, ?_, ?_, ?_, ?_⟩
                · have e : X ++ wTerm (⟨false, true, op, (x * 256 + y)⟩ : Tm) false = X ++ ch (mk (⟨false, true, op, 0⟩ : Tm) false) ++ ch x ++ ch y := by rw [wTerm_wide _ _ _ x y 0 y0 y1]; simp only [app_assoc]
                  rw [e]; exact hT8
                · refine allT_snoc _ _ _ _ hall ?_ ?_
                  · simp [isT, opM, mxV, hk5]; omega
                  · rfl
                · exact fun hlt => by rw [wInit_snoc, ← app_assoc, ← hXi.out (by omega)]
                · exact fun he => by exfalso; omega
              case measure => simp [intOf]; omega
        · have hz : ((j : Int) == 0) = false := by simp; omega
          by_cases hl : (j : Int) = 1 + c - 1
          · have hl' : ((j : Int) == 1 + c - 1) = true := by simpa using hl
            go_wp2_with fail
            refine (pickM_any M ao n cap 2 _ (by omega) (by omega) hT.mkr).mono ?_
            rintro e w1 ⟨a, rfl, a0, a1, hm_a, hg_a⟩
            have hT1 := hT.pick hM hm_a hg_a
            clear hm_a hg_a
            go_wp2_with fail
            refine (pickM_any M ao n cap 2 _ (by omega) (by omega) hT1.mkr).mono ?_
            rintro e w2 ⟨wd, rfl, wd0, wd1, hm_wd, hg_wd⟩
            have hT2 := hT1.pick hM hm_wd hg_wd
            clear hm_wd hg_wd
            go_wp2_with fail
            refine (pickM_any M ao n cap 8 _ (by omega) (by omega) hT2.mkr).mono ?_
            rintro e w3 ⟨op, rfl, op0, op1, hm_op, hg_op⟩
            have hT3 := hT2.pick hM hm_op hg_op
            clear hm_op hg_op
            have hwd : wd = 0 ∨ wd = 1 := by omega
            rcases hwd with rfl | rfl
            · go_wp2_with (at_builtin; refine wpList_append_own _ rfl _ _ 90 rfl w.heap.size 5 i0 _ 1 1 Try.underlying90 hi hz0 hz1 hz2 rfl (by decide) _ _ _ rfl (hT3.own.alloc _) ⟨w3.heap.size, 0, none⟩ 1 1 [.int .u8 _] rfl rfl (cell_one_new _ _ _ _ rfl) (int_one _ _) (by unfold maxLen; omega) (by omega) (by have := hT3.gr.size; simp; omega) ?_; intro v4 w4 ho4 hg4 _)
              have hmk : mk (⟨(decide (a = 1)), false, op, 0⟩ : Tm) true = op + 64 * a + 0 + 128 := by show _ + b2 (decide (a = 1)) 64 + _ + _ = _; rw [b2_dec a 64 a0 a1]; rfl
              have hT4 := hT3.byte hM hg4 ho4 (m := mk (⟨(decide (a = 1)), false, op, 0⟩ : Tm) true) (by rw [hmk]; omega) (by rw [hmk]; omega) (by rw [hmk]; omega)
              clear hg4 ho4 hmk
              go_wp2_with fail
              refine (pickM_any M ao n cap 256 _ (by omega) (by omega) hT4.mkr).mono ?_
              rintro e w7 ⟨y, rfl, y0, y1, hm_y, hg_y⟩
              have hT7 := hT4.pick hM hm_y hg_y
              clear hm_y hg_y
              go_wp2_with (at_builtin; refine wpList_append_own _ rfl _ _ 90 rfl w.heap.size 5 i0 _ 1 1 Try.underlying90 hi hz0 hz1 hz2 rfl (by decide) _ _ _ rfl (hT7.own.alloc _) ⟨w7.heap.size, 0, none⟩ 1 1 [.int .u8 _] rfl rfl (cell_one_new _ _ _ _ rfl) (int_one _ _) (by unfold maxLen; simp only [ByteArray.size_append, ch_size]; omega) (by simp only [ByteArray.size_append, ch_size]; omega) (by have := hT7.gr.size; simp; omega) ?_; intro v8 w8 ho8 hg8 _)
              have hT8 := hT7.byte hM hg8 ho8 (m := y) (by omega) (by omega) (by omega)
              clear hg8 ho8
              go_roundw
              case rel =>
                refine ⟨j + 1, X ++ wTerm (⟨(decide (a = 1)), false, op, y⟩ : Tm) true, ts ++ [⟨(decide (a = 1)), false, op, y⟩], by go_num, by omega, by simp; omega, ?_, ?_, ?_, ?_⟩
                · have e : X ++ wTerm (⟨(decide (a = 1)), false, op, y⟩ : Tm) true = X ++ ch (mk (⟨(decide (a = 1)), false, op, 0⟩ : Tm) true) ++ ch y := by rw [wTerm_thin]; simp only [app_assoc]
                  rw [e]; exact hT8
                · refine allT_snoc _ _ _ _ hall ?_ ?_
                  · simp [isT, opM, mxV, hk5]; omega
                  · have : ts.isEmpty = false := by cases ts <;> simp_all
                    simp [this]
                · exact fun hlt => by exfalso; omega
                · exact fun he => by rw [← wInit_last, ← app_assoc, ← hXi.out (by omega)]
              case measure => simp [intOf]; omega
            · go_wp2_with (at_builtin; refine wpList_append_own _ rfl _ _ 90 rfl w.heap.size 5 i0 _ 1 1 Try.underlying90 hi hz0 hz1 hz2 rfl (by decide) _ _ _ rfl (hT3.own.alloc _) ⟨w3.heap.size, 0, none⟩ 1 1 [.int .u8 _] rfl rfl (cell_one_new _ _ _ _ rfl) (int_one _ _) (by unfold maxLen; omega) (by omega) (by have := hT3.gr.size; simp; omega) ?_; intro v4 w4 ho4 hg4 _)
              have hmk : mk (⟨(decide (a = 1)), true, op, 0⟩ : Tm) true = op + 64 * a + 16 + 128 := by show _ + b2 (decide (a = 1)) 64 + _ + _ = _; rw [b2_dec a 64 a0 a1]; rfl
              have hT4 := hT3.byte hM hg4 ho4 (m := mk (⟨(decide (a = 1)), true, op, 0⟩ : Tm) true) (by rw [hmk]; omega) (by rw [hmk]; omega) (by rw [hmk]; omega)
              clear hg4 ho4 hmk
              go_wp2_with fail
              refine (pickM_any M ao n cap 256 _ (by omega) (by omega) hT4.mkr).mono ?_
              rintro e w5 ⟨x, rfl, x0, x1, hm_x, hg_x⟩
              have hT5 := hT4.pick hM hm_x hg_x
              clear hm_x hg_x
              go_wp2_with (at_builtin; refine wpList_append_own _ rfl _ _ 90 rfl w.heap.size 5 i0 _ 1 1 Try.underlying90 hi hz0 hz1 hz2 rfl (by decide) _ _ _ rfl (hT5.own.alloc _) ⟨w5.heap.size, 0, none⟩ 1 1 [.int .u8 _] rfl rfl (cell_one_new _ _ _ _ rfl) (int_one _ _) (by unfold maxLen; simp only [ByteArray.size_append, ch_size]; omega) (by simp only [ByteArray.size_append, ch_size]; omega) (by have := hT5.gr.size; simp; omega) ?_; intro v6 w6 ho6 hg6 _)
              have hT6 := hT5.byte hM hg6 ho6 (m := x) (by omega) (by omega) (by omega)
              clear hg6 ho6
              go_wp2_with fail
              refine (pickM_any M ao n cap 256 _ (by omega) (by omega) hT6.mkr).mono ?_
              rintro e w7 ⟨y, rfl, y0, y1, hm_y, hg_y⟩
              have hT7 := hT6.pick hM hm_y hg_y
              clear hm_y hg_y
              go_wp2_with (at_builtin; refine wpList_append_own _ rfl _ _ 90 rfl w.heap.size 5 i0 _ 1 1 Try.underlying90 hi hz0 hz1 hz2 rfl (by decide) _ _ _ rfl (hT7.own.alloc _) ⟨w7.heap.size, 0, none⟩ 1 1 [.int .u8 _] rfl rfl (cell_one_new _ _ _ _ rfl) (int_one _ _) (by unfold maxLen; simp only [ByteArray.size_append, ch_size]; omega) (by simp only [ByteArray.size_append, ch_size]; omega) (by have := hT7.gr.size; simp; omega) ?_; intro v8 w8 ho8 hg8 _)
              have hT8 := hT7.byte hM hg8 ho8 (m := y) (by omega) (by omega) (by omega)
              clear hg8 ho8
              go_roundw
              case rel =>
                refine ⟨j + 1, X ++ wTerm (⟨(decide (a = 1)), true, op, (x * 256 + y)⟩ : Tm) true, ts ++ [⟨(decide (a = 1)), true, op, (x * 256 + y)⟩], by go_num, by omega, by simp; omega, ?_, ?_, ?_, ?_⟩
                · have e : X ++ wTerm (⟨(decide (a = 1)), true, op, (x * 256 + y)⟩ : Tm) true = X ++ ch (mk (⟨(decide (a = 1)), true, op, 0⟩ : Tm) true) ++ ch x ++ ch y := by rw [wTerm_wide _ _ _ x y 0 y0 y1]; simp only [app_assoc]
                  rw [e]; exact hT8
                · refine allT_snoc _ _ _ _ hall ?_ ?_
                  · simp [isT, opM, mxV, hk5]; omega
                  · have : ts.isEmpty = false := by cases ts <;> simp_all
                    simp [this]
                · exact fun hlt => by exfalso; omega
                · exact fun he => by rw [← wInit_last, ← app_assoc, ← hXi.out (by omega)]
              case measure => simp [intOf]; omega
          · have hl' : ((j : Int) == 1 + c - 1) = false := by simpa using hl
            go_wp2_with fail
            refine (pickM_any M ao n cap 2 _ (by omega) (by omega) hT.mkr).mono ?_
            rintro e w1 ⟨a, rfl, a0, a1, hm_a, hg_a⟩
            have hT1 := hT.pick hM hm_a hg_a
            clear hm_a hg_a
            go_wp2_with fail
            refine (pickM_any M ao n cap 2 _ (by omega) (by omega) hT1.mkr).mono ?_
            rintro e w2 ⟨wd, rfl, wd0, wd1, hm_wd, hg_wd⟩
            have hT2 := hT1.pick hM hm_wd hg_wd
            clear hm_wd hg_wd
            go_wp2_with fail
            refine (pickM_any M ao n cap 8 _ (by omega) (by omega) hT2.mkr).mono ?_
            rintro e w3 ⟨op, rfl, op0, op1, hm_op, hg_op⟩
            have hT3 := hT2.pick hM hm_op hg_op
            clear hm_op hg_op
            have hwd : wd = 0 ∨ wd = 1 := by omega
            rcases hwd with rfl | rfl
            · go_wp2_with (at_builtin; refine wpList_append_own _ rfl _ _ 90 rfl w.heap.size 5 i0 _ 1 1 Try.underlying90 hi hz0 hz1 hz2 rfl (by decide) _ _ _ rfl (hT3.own.alloc _) ⟨w3.heap.size, 0, none⟩ 1 1 [.int .u8 _] rfl rfl (cell_one_new _ _ _ _ rfl) (int_one _ _) (by unfold maxLen; omega) (by omega) (by have := hT3.gr.size; simp; omega) ?_; intro v4 w4 ho4 hg4 _)
              have hmk : mk (⟨(decide (a = 1)), false, op, 0⟩ : Tm) false = op + 64 * a + 0 + 0 := by show _ + b2 (decide (a = 1)) 64 + _ + _ = _; rw [b2_dec a 64 a0 a1]; rfl
              have hT4 := hT3.byte hM hg4 ho4 (m := mk (⟨(decide (a = 1)), false, op, 0⟩ : Tm) false) (by rw [hmk]; omega) (by rw [hmk]; omega) (by rw [hmk]; omega)
              clear hg4 ho4 hmk
              go_wp2_with fail
              refine (pickM_any M ao n cap 256 _ (by omega) (by omega) hT4.mkr).mono ?_
              rintro e w7 ⟨y, rfl, y0, y1, hm_y, hg_y⟩
              have hT7 := hT4.pick hM hm_y hg_y
              clear hm_y hg_y
              go_wp2_with (at_builtin; refine wpList_append_own _ rfl _ _ 90 rfl w.heap.size 5 i0 _ 1 1 Try.underlying90 hi hz0 hz1 hz2 rfl (by decide) _ _ _ rfl (hT7.own.alloc _) ⟨w7.heap.size, 0, none⟩ 1 1 [.int .u8 _] rfl rfl (cell_one_new _ _ _ _ rfl) (int_one _ _) (by unfold maxLen; simp only [ByteArray.size_append, ch_size]; omega) (by simp only [ByteArray.size_append, ch_size]; omega) (by have := hT7.gr.size; simp; omega) ?_; intro v8 w8 ho8 hg8 _)
              have hT8 := hT7.byte hM hg8 ho8 (m := y) (by omega) (by omega) (by omega)
              clear hg8 ho8
              go_roundw
              case rel =>
                refine ⟨j + 1, X ++ wTerm (⟨(decide (a = 1)), false, op, y⟩ : Tm) false, ts ++ [⟨(decide (a = 1)), false, op, y⟩], by go_num, by omega, by simp; omega, ?_, ?_, ?_, ?_⟩
                · have e : X ++ wTerm (⟨(decide (a = 1)), false, op, y⟩ : Tm) false = X ++ ch (mk (⟨(decide (a = 1)), false, op, 0⟩ : Tm) false) ++ ch y := by rw [wTerm_thin]; simp only [app_assoc]
                  rw [e]; exact hT8
                · refine allT_snoc _ _ _ _ hall ?_ ?_
                  · simp [isT, opM, mxV, hk5]; omega
                  · have : ts.isEmpty = false := by cases ts <;> simp_all
                    simp [this]
                · exact fun hlt => by rw [wInit_snoc, ← app_assoc, ← hXi.out (by omega)]
                · exact fun he => by exfalso; omega
              case measure => simp [intOf]; omega
            · go_wp2_with (at_builtin; refine wpList_append_own _ rfl _ _ 90 rfl w.heap.size 5 i0 _ 1 1 Try.underlying90 hi hz0 hz1 hz2 rfl (by decide) _ _ _ rfl (hT3.own.alloc _) ⟨w3.heap.size, 0, none⟩ 1 1 [.int .u8 _] rfl rfl (cell_one_new _ _ _ _ rfl) (int_one _ _) (by unfold maxLen; omega) (by omega) (by have := hT3.gr.size; simp; omega) ?_; intro v4 w4 ho4 hg4 _)
              have hmk : mk (⟨(decide (a = 1)), true, op, 0⟩ : Tm) false = op + 64 * a + 16 + 0 := by show _ + b2 (decide (a = 1)) 64 + _ + _ = _; rw [b2_dec a 64 a0 a1]; rfl
              have hT4 := hT3.byte hM hg4 ho4 (m := mk (⟨(decide (a = 1)), true, op, 0⟩ : Tm) false) (by rw [hmk]; omega) (by rw [hmk]; omega) (by rw [hmk]; omega)
              clear hg4 ho4 hmk
              go_wp2_with fail
              refine (pickM_any M ao n cap 256 _ (by omega) (by omega) hT4.mkr).mono ?_
              rintro e w5 ⟨x, rfl, x0, x1, hm_x, hg_x⟩
              have hT5 := hT4.pick hM hm_x hg_x
              clear hm_x hg_x
              go_wp2_with (at_builtin; refine wpList_append_own _ rfl _ _ 90 rfl w.heap.size 5 i0 _ 1 1 Try.underlying90 hi hz0 hz1 hz2 rfl (by decide) _ _ _ rfl (hT5.own.alloc _) ⟨w5.heap.size, 0, none⟩ 1 1 [.int .u8 _] rfl rfl (cell_one_new _ _ _ _ rfl) (int_one _ _) (by unfold maxLen; simp only [ByteArray.size_append, ch_size]; omega) (by simp only [ByteArray.size_append, ch_size]; omega) (by have := hT5.gr.size; simp; omega) ?_; intro v6 w6 ho6 hg6 _)
              have hT6 := hT5.byte hM hg6 ho6 (m := x) (by omega) (by omega) (by omega)
              clear hg6 ho6
              go_wp2_with fail
              refine (pickM_any M ao n cap 256 _ (by omega) (by omega) hT6.mkr).mono ?_
              rintro e w7 ⟨y, rfl, y0, y1, hm_y, hg_y⟩
              have hT7 := hT6.pick hM hm_y hg_y
              clear hm_y hg_y
              go_wp2_with (at_builtin; refine wpList_append_own _ rfl _ _ 90 rfl w.heap.size 5 i0 _ 1 1 Try.underlying90 hi hz0 hz1 hz2 rfl (by decide) _ _ _ rfl (hT7.own.alloc _) ⟨w7.heap.size, 0, none⟩ 1 1 [.int .u8 _] rfl rfl (cell_one_new _ _ _ _ rfl) (int_one _ _) (by unfold maxLen; simp only [ByteArray.size_append, ch_size]; omega) (by simp only [ByteArray.size_append, ch_size]; omega) (by have := hT7.gr.size; simp; omega) ?_; intro v8 w8 ho8 hg8 _)
              have hT8 := hT7.byte hM hg8 ho8 (m := y) (by omega) (by omega) (by omega)
              clear hg8 ho8
              go_roundw
              case rel =>
                refine ⟨j + 1, X ++ wTerm (⟨(decide (a = 1)), true, op, (x * 256 + y)⟩ : Tm) false, ts ++ [⟨(decide (a = 1)), true, op, (x * 256 + y)⟩], by go_num, by omega, by simp; omega, ?_, ?_, ?_, ?_⟩
                · have e : X ++ wTerm (⟨(decide (a = 1)), true, op, (x * 256 + y)⟩ : Tm) false = X ++ ch (mk (⟨(decide (a = 1)), true, op, 0⟩ : Tm) false) ++ ch x ++ ch y := by rw [wTerm_wide _ _ _ x y 0 y0 y1]; simp only [app_assoc]
                  rw [e]; exact hT8
                · refine allT_snoc _ _ _ _ hall ?_ ?_
                  · simp [isT, opM, mxV, hk5]; omega
                  · have : ts.isEmpty = false := by cases ts <;> simp_all
                    simp [this]
                · exact fun hlt => by rw [wInit_snoc, ← app_assoc, ← hXi.out (by omega)]
                · exact fun he => by exfalso; omega
              case measure => simp [intOf]; omega
    · have hX : X = ch k ++ wTerms ts := hXt.out (by omega)
      have hX' : 0 < X.size := by rw [hX, ByteArray.size_append, ch_size]; omega
      have hcv := conv_own hT.own hX'
      have HX : Hid (X = ch k ++ wTerms ts) := hX
      clear hX
      go_wp2
      go_ret
      exact ⟨ts, by rw [← HX.out]; rfl, by omega, by omega, hall, hT.mkr, hT.gr⟩
end Go.Proofs.Ytkdcjcemeipkjaa
