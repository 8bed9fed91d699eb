import Derived.Test.YtgkiknfpcbcnnabGreatGc
import Derived.ProofKit
import Derived.OpenShut
import Derived.SizedLaws
namespace Go.Proofs.YtgkiknfpcbcnnabGreat
open Go.RowKit
set_option maxRecDepth 20000

/-- What the maker's terms work in: the maker; a row of bytes of its own. -/
structure TW (W0 : World) (M : Nat) (ao : Option Addr) (n cap : Nat) (w : World) (v : Value) (X : ByteArray) : Prop where
  mkr : Mk w M ao n cap
  gr : W0.grownBy w (some M)
  own : w.ownsRow W0.heap.size 5 1 v X.size (bv X)

theorem TW.pick {W0 : World} {M : Nat} {ao : Option Addr} {n cap : Nat} {w w' : World} {v : Value} {X : ByteArray} (hM : M < W0.heap.size) (h : TW W0 M ao n cap w v X) (hm : Mk w' M ao n cap) (hg : w.grownBy w' (some M)) : TW W0 M ao n cap w' v X :=
  ⟨hm, grownBy_trans h.gr hg, h.own.kept hg (by
    cases hv : v.ownBlock with
    | none => exact .inl rfl
    | some g => right; intro e; simp at e; have := (h.own.lt g hv).1; omega)⟩

theorem TW.byte {W0 : World} {M : Nat} {ao : Option Addr} {n cap : Nat} {w w1 : World} {v v1 : Value} {X : ByteArray} {o : Obj} {x m : Int} (hM : M < W0.heap.size) (h : TW W0 M ao n cap w v X) (hg : (w.alloc o).grownBy w1 v.ownBlock)
    (ho : w1.ownsRow W0.heap.size 5 1 v1 (X.size + 1) (bv X ++ [.int .u8 x])) (hx : x = m) (m0 : 0 ≤ m) (m1 : m ≤ 255) : TW W0 M ao n cap w1 v1 (X ++ ch m) := by
  subst hx
  have hr : ∀ k, v.ownBlock = some k → W0.heap.size ≤ k := fun k hk => (h.own.lt k hk).1
  refine ⟨(h.mkr.below (below_alloc w o)).row hg (fun k hk => by have := hr k hk; omega), ?_, owns_byte m0 m1 ho⟩
  have hs := h.gr.size
  refine ⟨hg.os.trans h.gr.os, hg.tape.trans h.gr.tape, hg.output.trans h.gr.output, by have := hg.size; simp at this; omega, fun k hk hne => ?_⟩
  rw [hg.block k (by simp; omega) (fun e => by have := hr k e.symm; omega)]
  exact (Below.heap_alloc w o k (by omega)).trans (h.gr.block k hk hne)

/-- Terms none of which is the last. -/
def wInit : List Tm → ByteArray
  | [] => ⟨#[]⟩
  | t :: r => wTerm t false ++ wInit r
theorem wInit_snoc (ts : List Tm) (t : Tm) : wInit (ts ++ [t]) = wInit ts ++ wTerm t false := by
  induction ts with
  | nil => simp [wInit, app_nil, nil_app]
  | cons a r ih => simp only [List.cons_append, wInit, ih, app_assoc]
theorem wInit_last (ts : List Tm) (t : Tm) : wInit ts ++ wTerm t true = wTerms (ts ++ [t]) := by
  induction ts with
  | nil => simp [wInit, wTerms, app_nil, nil_app]
  | cons a r ih =>
    have he : (r ++ [t]).isEmpty = false := by simp
    simp only [List.cons_append, wInit, wTerms, he, app_assoc, ih]
theorem wInit_size (ts : List Tm) : (wInit ts).size ≤ 3 * ts.length := by
  induction ts with
  | nil => exact Nat.zero_le _
  | cons t r ih => have := wTerm_size t false; simp only [wInit, ByteArray.size_append, List.length_cons]; omega

theorem allT_snoc (k : Int) (t : Tm) : ∀ (ts : List Tm) (f : Bool), allT k f ts = true → isT k t = true → (t.an && (f && ts.isEmpty)) = false → allT k f (ts ++ [t]) = true := by
  intro ts
  induction ts with
  | nil =>
    intro f _ ht hf
    simp only [List.isEmpty_nil, Bool.and_true] at hf
    simp [allT, ht, hf]
  | cons a r ih =>
    intro f h ht hf
    simp only [allT, Bool.and_eq_true] at h
    simp only [List.cons_append, allT, Bool.and_eq_true]
    exact ⟨h.1, ih false h.2 ht (by simp)⟩

theorem b2_dec (a n : Int) (h0 : 0 ≤ a) (h1 : a < 2) : b2 (decide (a = 1)) n = n * a := by
  have : a = 0 ∨ a = 1 := by omega
  rcases this with rfl | rfl <;> simp [b2]

theorem wTerm_thin (an : Bool) (op v : Int) (l : Bool) : wTerm ⟨an, false, op, v⟩ l = ch (mk ⟨an, false, op, 0⟩ l) ++ ch v := rfl
theorem wTerm_wide (an : Bool) (op : Int) (l : Bool) (x y : Int) (z : Int) (y0 : 0 ≤ y) (y1 : y < 256) : wTerm ⟨an, true, op, x * 256 + y⟩ l = ch (mk ⟨an, true, op, z⟩ l) ++ (ch x ++ ch y) := by
  have e1 : (x * 256 + y) / 256 = x := by omega
  have e2 : (x * 256 + y) % 256 = y := by omega
  show ch _ ++ (ch ((x * 256 + y) / 256) ++ ch ((x * 256 + y) % 256)) = _
  rw [e1, e2]; rfl

set_option maxHeartbeats 6400000 in
theorem termsM_any (M : Nat) (ao : Option Addr) (n cap : Nat) (k : Int) (w : World) (hk : 3 ≤ k ∧ k ≤ 5) (h : Mk w M ao n cap) :
    Calls Tryz.prog 81 #[.pointer (some ⟨M, 0, none⟩), .int .i64 k] w fun e w' => ∃ ts : List Tm, e = .returned (.string (ch k ++ wTerms ts)) ∧ 1 ≤ ts.length ∧ ts.length ≤ 8 ∧ allT k true ts = true ∧ Mk w' M ao n cap ∧ w.grownBy w' (some M) := by
  obtain ⟨i0, hi, hz0, hz1, hz2⟩ := info_parts infoByte
  obtain ⟨k0, k1⟩ := hk
  have hM : M < w.heap.size := by obtain ⟨a, _, hb⟩ := h.box; exact lt_of_block hb
  have ek : k % 256 = k := by omega
  go_enter Tryz.func81, Tryz.ntmps81
  go_wp2_with fail
  refine (pickM_any M ao n cap 8 _ (by omega) (by omega) h).mono ?_
  rintro e w0 ⟨c, rfl, c0, c1, hm0, hg0⟩
  have hTs : TW w M ao n cap (w0.alloc (.cells #[.int .u8 k] 5)) (.slice (some ⟨w0.heap.size, 0, none⟩) 1 1) (ch k) :=
    ⟨hm0.below (below_alloc _ _), grownBy_trans hg0 (World.grownBy_alloc _ _ _), owns_one w0 w.heap.size k (by omega) (by omega) hg0.size⟩
  clear hm0 hg0
  go_wp2_with fail
  go_loopw [6, 7] (fun v i wr => ∃ (j : Nat) (X : ByteArray) (ts : List Tm), i = .int .i64 j ∧ (j : Int) ≤ 1 + c ∧ ts.length = j ∧ TW w M ao n cap wr v X ∧ allT k true ts = true ∧ Hid ((j : Int) < 1 + c → X = ch k ++ wInit ts) ∧ Hid ((j : Int) = 1 + c → X = ch k ++ wTerms ts)) (fun _ i _ => (1 + c).toNat - (intOf i).toNat)
  case atStart => exact ⟨0, ch k, [], rfl, by omega, rfl, hTs, rfl, fun _ => (app_nil _).symm, fun h => by exfalso; simp at h; omega⟩
  case round =>
    obtain ⟨j, X, ts, rfl, hj, hlen, hT, hall, hXi, hXt⟩ := hrel
    clear hTs
    by_cases hlt : (j : Int) < 1 + c
    · have hX : X.size ≤ 1 + 3 * j := by rw [hXi.out hlt, ByteArray.size_append, ch_size]; have := wInit_size ts; omega
      by_cases hk5 : k = 5
      · subst hk5
        by_cases hj0 : j = 0
        · have hz : ((j : Int) == 0) = true := by simp [hj0]
          by_cases hl : (j : Int) = 1 + c - 1
          · have hl' : ((j : Int) == 1 + c - 1) = true := by simpa using hl
            go_wp2_with fail
            refine (pickM_any M ao n cap 2 _ (by omega) (by omega) hT.mkr).mono ?_
            rintro e w1 ⟨a, rfl, a0, a1, hm_a, hg_a⟩
            have hT1 := hT.pick hM hm_a hg_a
            clear hm_a hg_a
            go_wp2_with fail
            refine (pickM_any M ao n cap 2 _ (by omega) (by omega) hT1.mkr).mono ?_
            rintro e w2 ⟨wd, rfl, wd0, wd1, hm_wd, hg_wd⟩
            have hT2 := hT1.pick hM hm_wd hg_wd
            clear hm_wd hg_wd
            go_wp2_with fail
            refine (pickM_any M ao n cap 8 _ (by omega) (by omega) hT2.mkr).mono ?_
            rintro e w3 ⟨op, rfl, op0, op1, hm_op, hg_op⟩
            have hT3 := hT2.pick hM hm_op hg_op
            clear hm_op hg_op
            go_wp2_with (at_builtin; refine wpList_append_own _ rfl _ _ 173 rfl w.heap.size 5 i0 _ 1 1 Tryz.underlying173 hi hz0 hz1 hz2 rfl (by decide) _ _ _ rfl (hT3.own.alloc _) ⟨w3.heap.size, 0, none⟩ 1 1 [.int .u8 _] rfl rfl (cell_one_new _ _ _ _ rfl) (int_one _ _) (by unfold maxLen; omega) (by omega) (by have := hT3.gr.size; simp; omega) ?_; intro v4 w4 ho4 hg4 _)
            have hmk : mk (⟨false, false, (op % 4), 0⟩ : Tm) true = op % 4 + 0 + 0 + 128 := by rfl
            have hT4 := hT3.byte hM hg4 ho4 (m := mk (⟨false, false, (op % 4), 0⟩ : Tm) true) (by rw [hmk]; omega) (by rw [hmk]; omega) (by rw [hmk]; omega)
            clear hg4 ho4 hmk
            go_wp2_with fail
            refine (pickM_any M ao n cap 256 _ (by omega) (by omega) hT4.mkr).mono ?_
            rintro e w7 ⟨y, rfl, y0, y1, hm_y, hg_y⟩
            have hT7 := hT4.pick hM hm_y hg_y
            clear hm_y hg_y
            go_wp2_with (at_builtin; refine wpList_append_own _ rfl _ _ 173 rfl w.heap.size 5 i0 _ 1 1 Tryz.underlying173 hi hz0 hz1 hz2 rfl (by decide) _ _ _ rfl (hT7.own.alloc _) ⟨w7.heap.size, 0, none⟩ 1 1 [.int .u8 _] rfl rfl (cell_one_new _ _ _ _ rfl) (int_one _ _) (by unfold maxLen; simp only [ByteArray.size_append, ch_size]; omega) (by simp only [ByteArray.size_append, ch_size]; omega) (by have := hT7.gr.size; simp; omega) ?_; intro v8 w8 ho8 hg8 _)
            have hT8 := hT7.byte hM hg8 ho8 (m := y) (by omega) (by omega) (by omega)
            clear hg8 ho8
            go_roundw
            case rel =>
              refine ⟨j + 1, X ++ wTerm (⟨false, false, (op % 4), y⟩ : Tm) true, ts ++ [⟨false, false, (op % 4), y⟩], by go_num, by omega, by simp; omega, ?_, ?_, ?_, ?_⟩
              · have e : X ++ wTerm (⟨false, false, (op % 4), y⟩ : Tm) true = X ++ ch (mk (⟨false, false, (op % 4), 0⟩ : Tm) true) ++ ch y := by rw [wTerm_thin]; simp only [app_assoc]
                rw [e]; exact hT8
              · refine allT_snoc _ _ _ _ hall ?_ ?_
                · simp [isT, opM, mxV]; omega
                · rfl
              · exact fun hlt => by exfalso; omega
              · exact fun he => by rw [← wInit_last, ← app_assoc, ← hXi.out (by omega)]
            case measure => simp [intOf]; omega
          · have hl' : ((j : Int) == 1 + c - 1) = false := by simpa using hl
            go_wp2_with fail
            refine (pickM_any M ao n cap 2 _ (by omega) (by omega) hT.mkr).mono ?_
            rintro e w1 ⟨a, rfl, a0, a1, hm_a, hg_a⟩
            have hT1 := hT.pick hM hm_a hg_a
            clear hm_a hg_a
            go_wp2_with fail
            refine (pickM_any M ao n cap 2 _ (by omega) (by omega) hT1.mkr).mono ?_
            rintro e w2 ⟨wd, rfl, wd0, wd1, hm_wd, hg_wd⟩
            have hT2 := hT1.pick hM hm_wd hg_wd
            clear hm_wd hg_wd
            go_wp2_with fail
            refine (pickM_any M ao n cap 8 _ (by omega) (by omega) hT2.mkr).mono ?_
            rintro e w3 ⟨op, rfl, op0, op1, hm_op, hg_op⟩
            have hT3 := hT2.pick hM hm_op hg_op
            clear hm_op hg_op
            go_wp2_with (at_builtin; refine wpList_append_own _ rfl _ _ 173 rfl w.heap.size 5 i0 _ 1 1 Tryz.underlying173 hi hz0 hz1 hz2 rfl (by decide) _ _ _ rfl (hT3.own.alloc _) ⟨w3.heap.size, 0, none⟩ 1 1 [.int .u8 _] rfl rfl (cell_one_new _ _ _ _ rfl) (int_one _ _) (by unfold maxLen; omega) (by omega) (by have := hT3.gr.size; simp; omega) ?_; intro v4 w4 ho4 hg4 _)
            have hmk : mk (⟨false, false, (op % 4), 0⟩ : Tm) false = op % 4 + 0 + 0 + 0 := by rfl
            have hT4 := hT3.byte hM hg4 ho4 (m := mk (⟨false, false, (op % 4), 0⟩ : Tm) false) (by rw [hmk]; omega) (by rw [hmk]; omega) (by rw [hmk]; omega)
            clear hg4 ho4 hmk
            go_wp2_with fail
            refine (pickM_any M ao n cap 256 _ (by omega) (by omega) hT4.mkr).mono ?_
            rintro e w7 ⟨y, rfl, y0, y1, hm_y, hg_y⟩
            have hT7 := hT4.pick hM hm_y hg_y
            clear hm_y hg_y
            go_wp2_with (at_builtin; refine wpList_append_own _ rfl _ _ 173 rfl w.heap.size 5 i0 _ 1 1 Tryz.underlying173 hi hz0 hz1 hz2 rfl (by decide) _ _ _ rfl (hT7.own.alloc _) ⟨w7.heap.size, 0, none⟩ 1 1 [.int .u8 _] rfl rfl (cell_one_new _ _ _ _ rfl) (int_one _ _) (by unfold maxLen; simp only [ByteArray.size_append, ch_size]; omega) (by simp only [ByteArray.size_append, ch_size]; omega) (by have := hT7.gr.size; simp; omega) ?_; intro v8 w8 ho8 hg8 _)
            have hT8 := hT7.byte hM hg8 ho8 (m := y) (by omega) (by omega) (by omega)
            clear hg8 ho8
            go_roundw
            case rel =>
              refine ⟨j + 1, X ++ wTerm (⟨false, false, (op % 4), y⟩ : Tm) false, ts ++ [⟨false, false, (op % 4), y⟩], by go_num, by omega, by simp; omega, ?_, ?_, ?_, ?_⟩
              · have e : X ++ wTerm (⟨false, false, (op % 4), y⟩ : Tm) false = X ++ ch (mk (⟨false, false, (op % 4), 0⟩ : Tm) false) ++ ch y := by rw [wTerm_thin]; simp only [app_assoc]
                rw [e]; exact hT8
              · refine allT_snoc _ _ _ _ hall ?_ ?_
                · simp [isT, opM, mxV]; omega
                · rfl
              · exact fun hlt => by rw [wInit_snoc, ← app_assoc, ← hXi.out (by omega)]
              · exact fun he => by exfalso; omega
            case measure => simp [intOf]; omega
        · have hz : ((j : Int) == 0) = false := by simp; omega
          by_cases hl : (j : Int) = 1 + c - 1
          · have hl' : ((j : Int) == 1 + c - 1) = true := by simpa using hl
            go_wp2_with fail
            refine (pickM_any M ao n cap 2 _ (by omega) (by omega) hT.mkr).mono ?_
            rintro e w1 ⟨a, rfl, a0, a1, hm_a, hg_a⟩
            have hT1 := hT.pick hM hm_a hg_a
            clear hm_a hg_a
            go_wp2_with fail
            refine (pickM_any M ao n cap 2 _ (by omega) (by omega) hT1.mkr).mono ?_
            rintro e w2 ⟨wd, rfl, wd0, wd1, hm_wd, hg_wd⟩
            have hT2 := hT1.pick hM hm_wd hg_wd
            clear hm_wd hg_wd
            go_wp2_with fail
            refine (pickM_any M ao n cap 8 _ (by omega) (by omega) hT2.mkr).mono ?_
            rintro e w3 ⟨op, rfl, op0, op1, hm_op, hg_op⟩
            have hT3 := hT2.pick hM hm_op hg_op
            clear hm_op hg_op
            go_wp2_with (at_builtin; refine wpList_append_own _ rfl _ _ 173 rfl w.heap.size 5 i0 _ 1 1 Tryz.underlying173 hi hz0 hz1 hz2 rfl (by decide) _ _ _ rfl (hT3.own.alloc _) ⟨w3.heap.size, 0, none⟩ 1 1 [.int .u8 _] rfl rfl (cell_one_new _ _ _ _ rfl) (int_one _ _) (by unfold maxLen; omega) (by omega) (by have := hT3.gr.size; simp; omega) ?_; intro v4 w4 ho4 hg4 _)
            have hmk : mk (⟨(decide (a = 1)), false, (op % 4), 0⟩ : Tm) true = op % 4 + 64 * a + 0 + 128 := by show _ + b2 (decide (a = 1)) 64 + _ + _ = _; rw [b2_dec a 64 a0 a1]; rfl
            have hT4 := hT3.byte hM hg4 ho4 (m := mk (⟨(decide (a = 1)), false, (op % 4), 0⟩ : Tm) true) (by rw [hmk]; omega) (by rw [hmk]; omega) (by rw [hmk]; omega)
            clear hg4 ho4 hmk
            go_wp2_with fail
            refine (pickM_any M ao n cap 256 _ (by omega) (by omega) hT4.mkr).mono ?_
            rintro e w7 ⟨y, rfl, y0, y1, hm_y, hg_y⟩
            have hT7 := hT4.pick hM hm_y hg_y
            clear hm_y hg_y
            go_wp2_with (at_builtin; refine wpList_append_own _ rfl _ _ 173 rfl w.heap.size 5 i0 _ 1 1 Tryz.underlying173 hi hz0 hz1 hz2 rfl (by decide) _ _ _ rfl (hT7.own.alloc _) ⟨w7.heap.size, 0, none⟩ 1 1 [.int .u8 _] rfl rfl (cell_one_new _ _ _ _ rfl) (int_one _ _) (by unfold maxLen; simp only [ByteArray.size_append, ch_size]; omega) (by simp only [ByteArray.size_append, ch_size]; omega) (by have := hT7.gr.size; simp; omega) ?_; intro v8 w8 ho8 hg8 _)
            have hT8 := hT7.byte hM hg8 ho8 (m := y) (by omega) (by omega) (by omega)
            clear hg8 ho8
            go_roundw
            case rel =>
              refine ⟨j + 1, X ++ wTerm (⟨(decide (a = 1)), false, (op % 4), y⟩ : Tm) true, ts ++ [⟨(decide (a = 1)), false, (op % 4), y⟩], by go_num, by omega, by simp; omega, ?_, ?_, ?_, ?_⟩
              · have e : X ++ wTerm (⟨(decide (a = 1)), false, (op % 4), y⟩ : Tm) true = X ++ ch (mk (⟨(decide (a = 1)), false, (op % 4), 0⟩ : Tm) true) ++ ch y := by rw [wTerm_thin]; simp only [app_assoc]
                rw [e]; exact hT8
              · refine allT_snoc _ _ _ _ hall ?_ ?_
                · simp [isT, opM, mxV]; omega
                · have : ts.isEmpty = false := by cases ts <;> simp_all
                  simp [this]
              · exact fun hlt => by exfalso; omega
              · exact fun he => by rw [← wInit_last, ← app_assoc, ← hXi.out (by omega)]
            case measure => simp [intOf]; omega
          · have hl' : ((j : Int) == 1 + c - 1) = false := by simpa using hl
            go_wp2_with fail
            refine (pickM_any M ao n cap 2 _ (by omega) (by omega) hT.mkr).mono ?_
            rintro e w1 ⟨a, rfl, a0, a1, hm_a, hg_a⟩
            have hT1 := hT.pick hM hm_a hg_a
            clear hm_a hg_a
            go_wp2_with fail
            refine (pickM_any M ao n cap 2 _ (by omega) (by omega) hT1.mkr).mono ?_
            rintro e w2 ⟨wd, rfl, wd0, wd1, hm_wd, hg_wd⟩
            have hT2 := hT1.pick hM hm_wd hg_wd
            clear hm_wd hg_wd
            go_wp2_with fail
            refine (pickM_any M ao n cap 8 _ (by omega) (by omega) hT2.mkr).mono ?_
            rintro e w3 ⟨op, rfl, op0, op1, hm_op, hg_op⟩
            have hT3 := hT2.pick hM hm_op hg_op
            clear hm_op hg_op
            go_wp2_with (at_builtin; refine wpList_append_own _ rfl _ _ 173 rfl w.heap.size 5 i0 _ 1 1 Tryz.underlying173 hi hz0 hz1 hz2 rfl (by decide) _ _ _ rfl (hT3.own.alloc _) ⟨w3.heap.size, 0, none⟩ 1 1 [.int .u8 _] rfl rfl (cell_one_new _ _ _ _ rfl) (int_one _ _) (by unfold maxLen; omega) (by omega) (by have := hT3.gr.size; simp; omega) ?_; intro v4 w4 ho4 hg4 _)
            have hmk : mk (⟨(decide (a = 1)), false, (op % 4), 0⟩ : Tm) false = op % 4 + 64 * a + 0 + 0 := by show _ + b2 (decide (a = 1)) 64 + _ + _ = _; rw [b2_dec a 64 a0 a1]; rfl
            have hT4 := hT3.byte hM hg4 ho4 (m := mk (⟨(decide (a = 1)), false, (op % 4), 0⟩ : Tm) false) (by rw [hmk]; omega) (by rw [hmk]; omega) (by rw [hmk]; omega)
            clear hg4 ho4 hmk
            go_wp2_with fail
            refine (pickM_any M ao n cap 256 _ (by omega) (by omega) hT4.mkr).mono ?_
            rintro e w7 ⟨y, rfl, y0, y1, hm_y, hg_y⟩
            have hT7 := hT4.pick hM hm_y hg_y
            clear hm_y hg_y
            go_wp2_with (at_builtin; refine wpList_append_own _ rfl _ _ 173 rfl w.heap.size 5 i0 _ 1 1 Tryz.underlying173 hi hz0 hz1 hz2 rfl (by decide) _ _ _ rfl (hT7.own.alloc _) ⟨w7.heap.size, 0, none⟩ 1 1 [.int .u8 _] rfl rfl (cell_one_new _ _ _ _ rfl) (int_one _ _) (by unfold maxLen; simp only [ByteArray.size_append, ch_size]; omega) (by simp only [ByteArray.size_append, ch_size]; omega) (by have := hT7.gr.size; simp; omega) ?_; intro v8 w8 ho8 hg8 _)
            have hT8 := hT7.byte hM hg8 ho8 (m := y) (by omega) (by omega) (by omega)
            clear hg8 ho8
            go_roundw
            case rel =>
              refine ⟨j + 1, X ++ wTerm (⟨(decide (a = 1)), false, (op % 4), y⟩ : Tm) false, ts ++ [⟨(decide (a = 1)), false, (op % 4), y⟩], by go_num, by omega, by simp; omega, ?_, ?_, ?_, ?_⟩
              · have e : X ++ wTerm (⟨(decide (a = 1)), false, (op % 4), y⟩ : Tm) false = X ++ ch (mk (⟨(decide (a = 1)), false, (op % 4), 0⟩ : Tm) false) ++ ch y := by rw [wTerm_thin]; simp only [app_assoc]
                rw [e]; exact hT8
              · refine allT_snoc _ _ _ _ hall ?_ ?_
                · simp [isT, opM, mxV]; omega
                · have : ts.isEmpty = false := by cases ts <;> simp_all
                  simp [this]
              · exact fun hlt => by rw [wInit_snoc, ← app_assoc, ← hXi.out (by omega)]
              · exact fun he => by exfalso; omega
            case measure => simp [intOf]; omega
      · have hkk : (k == 5) = false := by simpa using hk5
        by_cases hj0 : j = 0
        · have hz : ((j : Int) == 0) = true := by simp [hj0]
          by_cases hl : (j : Int) = 1 + c - 1
          · have hl' : ((j : Int) == 1 + c - 1) = true := by simpa using hl
            go_wp2_with fail
            refine (pickM_any M ao n cap 2 _ (by omega) (by omega) hT.mkr).mono ?_
            rintro e w1 ⟨a, rfl, a0, a1, hm_a, hg_a⟩
            have hT1 := hT.pick hM hm_a hg_a
            clear hm_a hg_a
            go_wp2_with fail
            refine (pickM_any M ao n cap 2 _ (by omega) (by omega) hT1.mkr).mono ?_
            rintro e w2 ⟨wd, rfl, wd0, wd1, hm_wd, hg_wd⟩
            have hT2 := hT1.pick hM hm_wd hg_wd
            clear hm_wd hg_wd
            go_wp2_with fail
            refine (pickM_any M ao n cap 8 _ (by omega) (by omega) hT2.mkr).mono ?_
            rintro e w3 ⟨op, rfl, op0, op1, hm_op, hg_op⟩
            have hT3 := hT2.pick hM hm_op hg_op
            clear hm_op hg_op
            have hwd : wd = 0 ∨ wd = 1 := by omega
            rcases hwd with rfl | rfl
            · go_wp2_with (at_builtin; refine wpList_append_own _ rfl _ _ 173 rfl w.heap.size 5 i0 _ 1 1 Tryz.underlying173 hi hz0 hz1 hz2 rfl (by decide) _ _ _ rfl (hT3.own.alloc _) ⟨w3.heap.size, 0, none⟩ 1 1 [.int .u8 _] rfl rfl (cell_one_new _ _ _ _ rfl) (int_one _ _) (by unfold maxLen; omega) (by omega) (by have := hT3.gr.size; simp; omega) ?_; intro v4 w4 ho4 hg4 _)
              have hmk : mk (⟨false, false, op, 0⟩ : Tm) true = op + 0 + 0 + 128 := by rfl
              have hT4 := hT3.byte hM hg4 ho4 (m := mk (⟨false, false, op, 0⟩ : Tm) true) (by rw [hmk]; omega) (by rw [hmk]; omega) (by rw [hmk]; omega)
              clear hg4 ho4 hmk
              go_wp2_with fail
              refine (pickM_any M ao n cap 256 _ (by omega) (by omega) hT4.mkr).mono ?_
              rintro e w7 ⟨y, rfl, y0, y1, hm_y, hg_y⟩
              have hT7 := hT4.pick hM hm_y hg_y
              clear hm_y hg_y
              go_wp2_with (at_builtin; refine wpList_append_own _ rfl _ _ 173 rfl w.heap.size 5 i0 _ 1 1 Tryz.underlying173 hi hz0 hz1 hz2 rfl (by decide) _ _ _ rfl (hT7.own.alloc _) ⟨w7.heap.size, 0, none⟩ 1 1 [.int .u8 _] rfl rfl (cell_one_new _ _ _ _ rfl) (int_one _ _) (by unfold maxLen; simp only [ByteArray.size_append, ch_size]; omega) (by simp only [ByteArray.size_append, ch_size]; omega) (by have := hT7.gr.size; simp; omega) ?_; intro v8 w8 ho8 hg8 _)
              have hT8 := hT7.byte hM hg8 ho8 (m := y) (by omega) (by omega) (by omega)
              clear hg8 ho8
              go_roundw
              case rel =>
                refine ⟨j + 1, X ++ wTerm (⟨false, false, op, y⟩ : Tm) true, ts ++ [⟨false, false, op, y⟩], by go_num, by omega, by simp; omega, ?_, ?_, ?_, ?_⟩
                · have e : X ++ wTerm (⟨false, false, op, y⟩ : Tm) true = X ++ ch (mk (⟨false, false, op, 0⟩ : Tm) true) ++ ch y := by rw [wTerm_thin]; simp only [app_assoc]
                  rw [e]; exact hT8
                · refine allT_snoc _ _ _ _ hall ?_ ?_
                  · simp [isT, opM, mxV, hk5]; omega
                  · rfl
                · exact fun hlt => by exfalso; omega
                · exact fun he => by rw [← wInit_last, ← app_assoc, ← hXi.out (by omega)]
              case measure => simp [intOf]; omega
            · go_wp2_with (at_builtin; refine wpList_append_own _ rfl _ _ 173 rfl w.heap.size 5 i0 _ 1 1 Tryz.underlying173 hi hz0 hz1 hz2 rfl (by decide) _ _ _ rfl (hT3.own.alloc _) ⟨w3.heap.size, 0, none⟩ 1 1 [.int .u8 _] rfl rfl (cell_one_new _ _ _ _ rfl) (int_one _ _) (by unfold maxLen; omega) (by omega) (by have := hT3.gr.size; simp; omega) ?_; intro v4 w4 ho4 hg4 _)
              have hmk : mk (⟨false, true, op, 0⟩ : Tm) true = op + 0 + 16 + 128 := by rfl
              have hT4 := hT3.byte hM hg4 ho4 (m := mk (⟨false, true, op, 0⟩ : Tm) true) (by rw [hmk]; omega) (by rw [hmk]; omega) (by rw [hmk]; omega)
              clear hg4 ho4 hmk
              go_wp2_with fail
              refine (pickM_any M ao n cap 256 _ (by omega) (by omega) hT4.mkr).mono ?_
              rintro e w5 ⟨x, rfl, x0, x1, hm_x, hg_x⟩
              have hT5 := hT4.pick hM hm_x hg_x
              clear hm_x hg_x
              go_wp2_with (at_builtin; refine wpList_append_own _ rfl _ _ 173 rfl w.heap.size 5 i0 _ 1 1 Tryz.underlying173 hi hz0 hz1 hz2 rfl (by decide) _ _ _ rfl (hT5.own.alloc _) ⟨w5.heap.size, 0, none⟩ 1 1 [.int .u8 _] rfl rfl (cell_one_new _ _ _ _ rfl) (int_one _ _) (by unfold maxLen; simp only [ByteArray.size_append, ch_size]; omega) (by simp only [ByteArray.size_append, ch_size]; omega) (by have := hT5.gr.size; simp; omega) ?_; intro v6 w6 ho6 hg6 _)
              have hT6 := hT5.byte hM hg6 ho6 (m := x) (by omega) (by omega) (by omega)
              clear hg6 ho6
              go_wp2_with fail
              refine (pickM_any M ao n cap 256 _ (by omega) (by omega) hT6.mkr).mono ?_
              rintro e w7 ⟨y, rfl, y0, y1, hm_y, hg_y⟩
              have hT7 := hT6.pick hM hm_y hg_y
              clear hm_y hg_y
              go_wp2_with (at_builtin; refine wpList_append_own _ rfl _ _ 173 rfl w.heap.size 5 i0 _ 1 1 Tryz.underlying173 hi hz0 hz1 hz2 rfl (by decide) _ _ _ rfl (hT7.own.alloc _) ⟨w7.heap.size, 0, none⟩ 1 1 [.int .u8 _] rfl rfl (cell_one_new _ _ _ _ rfl) (int_one _ _) (by unfold maxLen; simp only [ByteArray.size_append, ch_size]; omega) (by simp only [ByteArray.size_append, ch_size]; omega) (by have := hT7.gr.size; simp; omega) ?_; intro v8 w8 ho8 hg8 _)
              have hT8 := hT7.byte hM hg8 ho8 (m := y) (by omega) (by omega) (by omega)
              clear hg8 ho8
              go_roundw
              case rel =>
                refine ⟨j + 1, X ++ wTerm (⟨false, true, op, (x * 256 + y)⟩ : Tm) true, ts ++ [⟨false, true, op, (x * 256 + y)⟩], by go_num, by omega, by simp; omega, ?_, ?_, ?_, ?_⟩
                · have e : X ++ wTerm (⟨false, true, op, (x * 256 + y)⟩ : Tm) true = X ++ ch (mk (⟨false, true, op, 0⟩ : Tm) true) ++ ch x ++ ch y := by rw [wTerm_wide _ _ _ x y 0 y0 y1]; simp only [app_assoc]
                  rw [e]; exact hT8
                · refine allT_snoc _ _ _ _ hall ?_ ?_
                  · simp [isT, opM, mxV, hk5]; omega
                  · rfl
                · exact fun hlt => by exfalso; omega
                · exact fun he => by rw [← wInit_last, ← app_assoc, ← hXi.out (by omega)]
              case measure => simp [intOf]; omega
          · have hl' : ((j : Int) == 1 + c - 1) = false := by simpa using hl
            go_wp2_with fail
            refine (pickM_any M ao n cap 2 _ (by omega) (by omega) hT.mkr).mono ?_
            rintro e w1 ⟨a, rfl, a0, a1, hm_a, hg_a⟩
            have hT1 := hT.pick hM hm_a hg_a
            clear hm_a hg_a
            go_wp2_with fail
            refine (pickM_any M ao n cap 2 _ (by omega) (by omega) hT1.mkr).mono ?_
            rintro e w2 ⟨wd, rfl, wd0, wd1, hm_wd, hg_wd⟩
            have hT2 := hT1.pick hM hm_wd hg_wd
            clear hm_wd hg_wd
            go_wp2_with fail
            refine (pickM_any M ao n cap 8 _ (by omega) (by omega) hT2.mkr).mono ?_
            rintro e w3 ⟨op, rfl, op0, op1, hm_op, hg_op⟩
            have hT3 := hT2.pick hM hm_op hg_op
            clear hm_op hg_op
            have hwd : wd = 0 ∨ wd = 1 := by omega
            rcases hwd with rfl | rfl
            · go_wp2_with (at_builtin; refine wpList_append_own _ rfl _ _ 173 rfl w.heap.size 5 i0 _ 1 1 Tryz.underlying173 hi hz0 hz1 hz2 rfl (by decide) _ _ _ rfl (hT3.own.alloc _) ⟨w3.heap.size, 0, none⟩ 1 1 [.int .u8 _] rfl rfl (cell_one_new _ _ _ _ rfl) (int_one _ _) (by unfold maxLen; omega) (by omega) (by have := hT3.gr.size; simp; omega) ?_; intro v4 w4 ho4 hg4 _)
              have hmk : mk (⟨false, false, op, 0⟩ : Tm) false = op + 0 + 0 + 0 := by rfl
              have hT4 := hT3.byte hM hg4 ho4 (m := mk (⟨false, false, op, 0⟩ : Tm) false) (by rw [hmk]; omega) (by rw [hmk]; omega) (by rw [hmk]; omega)
              clear hg4 ho4 hmk
              go_wp2_with fail
              refine (pickM_any M ao n cap 256 _ (by omega) (by omega) hT4.mkr).mono ?_
              rintro e w7 ⟨y, rfl, y0, y1, hm_y, hg_y⟩
              have hT7 := hT4.pick hM hm_y hg_y
              clear hm_y hg_y
              go_wp2_with (at_builtin; refine wpList_append_own _ rfl _ _ 173 rfl w.heap.size 5 i0 _ 1 1 Tryz.underlying173 hi hz0 hz1 hz2 rfl (by decide) _ _ _ rfl (hT7.own.alloc _) ⟨w7.heap.size, 0, none⟩ 1 1 [.int .u8 _] rfl rfl (cell_one_new _ _ _ _ rfl) (int_one _ _) (by unfold maxLen; simp only [ByteArray.size_append, ch_size]; omega) (by simp only [ByteArray.size_append, ch_size]; omega) (by have := hT7.gr.size; simp; omega) ?_; intro v8 w8 ho8 hg8 _)
              have hT8 := hT7.byte hM hg8 ho8 (m := y) (by omega) (by omega) (by omega)
              clear hg8 ho8
              go_roundw
              case rel =>
                refine ⟨j + 1, X ++ wTerm (⟨false, false, op, y⟩ : Tm) false, ts ++ [⟨false, false, op, y⟩], by go_num, by omega, by simp; omega, ?_, ?_, ?_, ?_⟩
                · have e : X ++ wTerm (⟨false, false, op, y⟩ : Tm) false = X ++ ch (mk (⟨false, false, op, 0⟩ : Tm) false) ++ ch y := by rw [wTerm_thin]; simp only [app_assoc]
                  rw [e]; exact hT8
                · refine allT_snoc _ _ _ _ hall ?_ ?_
                  · simp [isT, opM, mxV, hk5]; omega
                  · rfl
                · exact fun hlt => by rw [wInit_snoc, ← app_assoc, ← hXi.out (by omega)]
                · exact fun he => by exfalso; omega
              case measure => simp [intOf]; omega
            · go_wp2_with (at_builtin; refine wpList_append_own _ rfl _ _ 173 rfl w.heap.size 5 i0 _ 1 1 Tryz.underlying173 hi hz0 hz1 hz2 rfl (by decide) _ _ _ rfl (hT3.own.alloc _) ⟨w3.heap.size, 0, none⟩ 1 1 [.int .u8 _] rfl rfl (cell_one_new _ _ _ _ rfl) (int_one _ _) (by unfold maxLen; omega) (by omega) (by have := hT3.gr.size; simp; omega) ?_; intro v4 w4 ho4 hg4 _)
              have hmk : mk (⟨false, true, op, 0⟩ : Tm) false = op + 0 + 16 + 0 := by rfl
              have hT4 := hT3.byte hM hg4 ho4 (m := mk (⟨false, true, op, 0⟩ : Tm) false) (by rw [hmk]; omega) (by rw [hmk]; omega) (by rw [hmk]; omega)
              clear hg4 ho4 hmk
              go_wp2_with fail
              refine (pickM_any M ao n cap 256 _ (by omega) (by omega) hT4.mkr).mono ?_
              rintro e w5 ⟨x, rfl, x0, x1, hm_x, hg_x⟩
              have hT5 := hT4.pick hM hm_x hg_x
              clear hm_x hg_x
              go_wp2_with (at_builtin; refine wpList_append_own _ rfl _ _ 173 rfl w.heap.size 5 i0 _ 1 1 Tryz.underlying173 hi hz0 hz1 hz2 rfl (by decide) _ _ _ rfl (hT5.own.alloc _) ⟨w5.heap.size, 0, none⟩ 1 1 [.int .u8 _] rfl rfl (cell_one_new _ _ _ _ rfl) (int_one _ _) (by unfold maxLen; simp only [ByteArray.size_append, ch_size]; omega) (by simp only [ByteArray.size_append, ch_size]; omega) (by have := hT5.gr.size; simp; omega) ?_; intro v6 w6 ho6 hg6 _)
              have hT6 := hT5.byte hM hg6 ho6 (m := x) (by omega) (by omega) (by omega)
              clear hg6 ho6
              go_wp2_with fail
              refine (pickM_any M ao n cap 256 _ (by omega) (by omega) hT6.mkr).mono ?_
              rintro e w7 ⟨y, rfl, y0, y1, hm_y, hg_y⟩
              have hT7 := hT6.pick hM hm_y hg_y
              clear hm_y hg_y
              go_wp2_with (at_builtin; refine wpList_append_own _ rfl _ _ 173 rfl w.heap.size 5 i0 _ 1 1 Tryz.underlying173 hi hz0 hz1 hz2 rfl (by decide) _ _ _ rfl (hT7.own.alloc _) ⟨w7.heap.size, 0, none⟩ 1 1 [.int .u8 _] rfl rfl (cell_one_new _ _ _ _ rfl) (int_one _ _) (by unfold maxLen; simp only [ByteArray.size_append, ch_size]; omega) (by simp only [ByteArray.size_append, ch_size]; omega) (by have := hT7.gr.size; simp; omega) ?_; intro v8 w8 ho8 hg8 _)
              have hT8 := hT7.byte hM hg8 ho8 (m := y) (by omega) (by omega) (by omega)
              clear hg8 ho8
              go_roundw
              case rel =>
                refine ⟨j + 1, X ++ wTerm (⟨false, true, op, (x * 256 + y)⟩ : Tm) false, ts ++ [⟨false, true, op, (x * 256 + y)⟩], by go_num, by omega, by simp; omega, ?_, ?_, ?_, ?_⟩
                · have e : X ++ wTerm (⟨false, true, op, (x * 256 + y)⟩ : Tm) false = X ++ ch (mk (⟨false, true, op, 0⟩ : Tm) false) ++ ch x ++ ch y := by rw [wTerm_wide _ _ _ x y 0 y0 y1]; simp only [app_assoc]
                  rw [e]; exact hT8
                · refine allT_snoc _ _ _ _ hall ?_ ?_
                  · simp [isT, opM, mxV, hk5]; omega
                  · rfl
                · exact fun hlt => by rw [wInit_snoc, ← app_assoc, ← hXi.out (by omega)]
                · exact fun he => by exfalso; omega
              case measure => simp [intOf]; omega
        · have hz : ((j : Int) == 0) = false := by simp; omega
          by_cases hl : (j : Int) = 1 + c - 1
          · have hl' : ((j : Int) == 1 + c - 1) = true := by simpa using hl
            go_wp2_with fail
            refine (pickM_any M ao n cap 2 _ (by omega) (by omega) hT.mkr).mono ?_
            rintro e w1 ⟨a, rfl, a0, a1, hm_a, hg_a⟩
            have hT1 := hT.pick hM hm_a hg_a
            clear hm_a hg_a
            go_wp2_with fail
            refine (pickM_any M ao n cap 2 _ (by omega) (by omega) hT1.mkr).mono ?_
            rintro e w2 ⟨wd, rfl, wd0, wd1, hm_wd, hg_wd⟩
            have hT2 := hT1.pick hM hm_wd hg_wd
            clear hm_wd hg_wd
            go_wp2_with fail
            refine (pickM_any M ao n cap 8 _ (by omega) (by omega) hT2.mkr).mono ?_
            rintro e w3 ⟨op, rfl, op0, op1, hm_op, hg_op⟩
            have hT3 := hT2.pick hM hm_op hg_op
            clear hm_op hg_op
            have hwd : wd = 0 ∨ wd = 1 := by omega
            rcases hwd with rfl | rfl
            · go_wp2_with (at_builtin; refine wpList_append_own _ rfl _ _ 173 rfl w.heap.size 5 i0 _ 1 1 Tryz.underlying173 hi hz0 hz1 hz2 rfl (by decide) _ _ _ rfl (hT3.own.alloc _) ⟨w3.heap.size, 0, none⟩ 1 1 [.int .u8 _] rfl rfl (cell_one_new _ _ _ _ rfl) (int_one _ _) (by unfold maxLen; omega) (by omega) (by have := hT3.gr.size; simp; omega) ?_; intro v4 w4 ho4 hg4 _)
              have hmk : mk (⟨(decide (a = 1)), false, op, 0⟩ : Tm) true = op + 64 * a + 0 + 128 := by show _ + b2 (decide (a = 1)) 64 + _ + _ = _; rw [b2_dec a 64 a0 a1]; rfl
              have hT4 := hT3.byte hM hg4 ho4 (m := mk (⟨(decide (a = 1)), false, op, 0⟩ : Tm) true) (by rw [hmk]; omega) (by rw [hmk]; omega) (by rw [hmk]; omega)
              clear hg4 ho4 hmk
              go_wp2_with fail
              refine (pickM_any M ao n cap 256 _ (by omega) (by omega) hT4.mkr).mono ?_
              rintro e w7 ⟨y, rfl, y0, y1, hm_y, hg_y⟩
              have hT7 := hT4.pick hM hm_y hg_y
              clear hm_y hg_y
              go_wp2_with (at_builtin; refine wpList_append_own _ rfl _ _ 173 rfl w.heap.size 5 i0 _ 1 1 Tryz.underlying173 hi hz0 hz1 hz2 rfl (by decide) _ _ _ rfl (hT7.own.alloc _) ⟨w7.heap.size, 0, none⟩ 1 1 [.int .u8 _] rfl rfl (cell_one_new _ _ _ _ rfl) (int_one _ _) (by unfold maxLen; simp only [ByteArray.size_append, ch_size]; omega) (by simp only [ByteArray.size_append, ch_size]; omega) (by have := hT7.gr.size; simp; omega) ?_; intro v8 w8 ho8 hg8 _)
              have hT8 := hT7.byte hM hg8 ho8 (m := y) (by omega) (by omega) (by omega)
              clear hg8 ho8
              go_roundw
              case rel =>
                refine ⟨j + 1, X ++ wTerm (⟨(decide (a = 1)), false, op, y⟩ : Tm) true, ts ++ [⟨(decide (a = 1)), false, op, y⟩], by go_num, by omega, by simp; omega, ?_, ?_, ?_, ?_⟩
                · have e : X ++ wTerm (⟨(decide (a = 1)), false, op, y⟩ : Tm) true = X ++ ch (mk (⟨(decide (a = 1)), false, op, 0⟩ : Tm) true) ++ ch y := by rw [wTerm_thin]; simp only [app_assoc]
                  rw [e]; exact hT8
                · refine allT_snoc _ _ _ _ hall ?_ ?_
                  · simp [isT, opM, mxV, hk5]; omega
                  · have : ts.isEmpty = false := by cases ts <;> simp_all
                    simp [this]
                · exact fun hlt => by exfalso; omega
                · exact fun he => by rw [← wInit_last, ← app_assoc, ← hXi.out (by omega)]
              case measure => simp [intOf]; omega
            · go_wp2_with (at_builtin; refine wpList_append_own _ rfl _ _ 173 rfl w.heap.size 5 i0 _ 1 1 Tryz.underlying173 hi hz0 hz1 hz2 rfl (by decide) _ _ _ rfl (hT3.own.alloc _) ⟨w3.heap.size, 0, none⟩ 1 1 [.int .u8 _] rfl rfl (cell_one_new _ _ _ _ rfl) (int_one _ _) (by unfold maxLen; omega) (by omega) (by have := hT3.gr.size; simp; omega) ?_; intro v4 w4 ho4 hg4 _)
              have hmk : mk (⟨(decide (a = 1)), true, op, 0⟩ : Tm) true = op + 64 * a + 16 + 128 := by show _ + b2 (decide (a = 1)) 64 + _ + _ = _; rw [b2_dec a 64 a0 a1]; rfl
              have hT4 := hT3.byte hM hg4 ho4 (m := mk (⟨(decide (a = 1)), true, op, 0⟩ : Tm) true) (by rw [hmk]; omega) (by rw [hmk]; omega) (by rw [hmk]; omega)
              clear hg4 ho4 hmk
              go_wp2_with fail
              refine (pickM_any M ao n cap 256 _ (by omega) (by omega) hT4.mkr).mono ?_
              rintro e w5 ⟨x, rfl, x0, x1, hm_x, hg_x⟩
              have hT5 := hT4.pick hM hm_x hg_x
              clear hm_x hg_x
              go_wp2_with (at_builtin; refine wpList_append_own _ rfl _ _ 173 rfl w.heap.size 5 i0 _ 1 1 Tryz.underlying173 hi hz0 hz1 hz2 rfl (by decide) _ _ _ rfl (hT5.own.alloc _) ⟨w5.heap.size, 0, none⟩ 1 1 [.int .u8 _] rfl rfl (cell_one_new _ _ _ _ rfl) (int_one _ _) (by unfold maxLen; simp only [ByteArray.size_append, ch_size]; omega) (by simp only [ByteArray.size_append, ch_size]; omega) (by have := hT5.gr.size; simp; omega) ?_; intro v6 w6 ho6 hg6 _)
              have hT6 := hT5.byte hM hg6 ho6 (m := x) (by omega) (by omega) (by omega)
              clear hg6 ho6
              go_wp2_with fail
              refine (pickM_any M ao n cap 256 _ (by omega) (by omega) hT6.mkr).mono ?_
              rintro e w7 ⟨y, rfl, y0, y1, hm_y, hg_y⟩
              have hT7 := hT6.pick hM hm_y hg_y
              clear hm_y hg_y
              go_wp2_with (at_builtin; refine wpList_append_own _ rfl _ _ 173 rfl w.heap.size 5 i0 _ 1 1 Tryz.underlying173 hi hz0 hz1 hz2 rfl (by decide) _ _ _ rfl (hT7.own.alloc _) ⟨w7.heap.size, 0, none⟩ 1 1 [.int .u8 _] rfl rfl (cell_one_new _ _ _ _ rfl) (int_one _ _) (by unfold maxLen; simp only [ByteArray.size_append, ch_size]; omega) (by simp only [ByteArray.size_append, ch_size]; omega) (by have := hT7.gr.size; simp; omega) ?_; intro v8 w8 ho8 hg8 _)
              have hT8 := hT7.byte hM hg8 ho8 (m := y) (by omega) (by omega) (by omega)
              clear hg8 ho8
              go_roundw
              case rel =>
                refine ⟨j + 1, X ++ wTerm (⟨(decide (a = 1)), true, op, (x * 256 + y)⟩ : Tm) true, ts ++ [⟨(decide (a = 1)), true, op, (x * 256 + y)⟩], by go_num, by omega, by simp; omega, ?_, ?_, ?_, ?_⟩
                · have e : X ++ wTerm (⟨(decide (a = 1)), true, op, (x * 256 + y)⟩ : Tm) true = X ++ ch (mk (⟨(decide (a = 1)), true, op, 0⟩ : Tm) true) ++ ch x ++ ch y := by rw [wTerm_wide _ _ _ x y 0 y0 y1]; simp only [app_assoc]
                  rw [e]; exact hT8
                · refine allT_snoc _ _ _ _ hall ?_ ?_
                  · simp [isT, opM, mxV, hk5]; omega
                  · have : ts.isEmpty = false := by cases ts <;> simp_all
                    simp [this]
                · exact fun hlt => by exfalso; omega
                · exact fun he => by rw [← wInit_last, ← app_assoc, ← hXi.out (by omega)]
              case measure => simp [intOf]; omega
          · have hl' : ((j : Int) == 1 + c - 1) = false := by simpa using hl
            go_wp2_with fail
            refine (pickM_any M ao n cap 2 _ (by omega) (by omega) hT.mkr).mono ?_
            rintro e w1 ⟨a, rfl, a0, a1, hm_a, hg_a⟩
            have hT1 := hT.pick hM hm_a hg_a
            clear hm_a hg_a
            go_wp2_with fail
            refine (pickM_any M ao n cap 2 _ (by omega) (by omega) hT1.mkr).mono ?_
            rintro e w2 ⟨wd, rfl, wd0, wd1, hm_wd, hg_wd⟩
            have hT2 := hT1.pick hM hm_wd hg_wd
            clear hm_wd hg_wd
            go_wp2_with fail
            refine (pickM_any M ao n cap 8 _ (by omega) (by omega) hT2.mkr).mono ?_
            rintro e w3 ⟨op, rfl, op0, op1, hm_op, hg_op⟩
            have hT3 := hT2.pick hM hm_op hg_op
            clear hm_op hg_op
            have hwd : wd = 0 ∨ wd = 1 := by omega
            rcases hwd with rfl | rfl
            · go_wp2_with (at_builtin; refine wpList_append_own _ rfl _ _ 173 rfl w.heap.size 5 i0 _ 1 1 Tryz.underlying173 hi hz0 hz1 hz2 rfl (by decide) _ _ _ rfl (hT3.own.alloc _) ⟨w3.heap.size, 0, none⟩ 1 1 [.int .u8 _] rfl rfl (cell_one_new _ _ _ _ rfl) (int_one _ _) (by unfold maxLen; omega) (by omega) (by have := hT3.gr.size; simp; omega) ?_; intro v4 w4 ho4 hg4 _)
              have hmk : mk (⟨(decide (a = 1)), false, op, 0⟩ : Tm) false = op + 64 * a + 0 + 0 := by show _ + b2 (decide (a = 1)) 64 + _ + _ = _; rw [b2_dec a 64 a0 a1]; rfl
              have hT4 := hT3.byte hM hg4 ho4 (m := mk (⟨(decide (a = 1)), false, op, 0⟩ : Tm) false) (by rw [hmk]; omega) (by rw [hmk]; omega) (by rw [hmk]; omega)
              clear hg4 ho4 hmk
              go_wp2_with fail
              refine (pickM_any M ao n cap 256 _ (by omega) (by omega) hT4.mkr).mono ?_
              rintro e w7 ⟨y, rfl, y0, y1, hm_y, hg_y⟩
              have hT7 := hT4.pick hM hm_y hg_y
              clear hm_y hg_y
              go_wp2_with (at_builtin; refine wpList_append_own _ rfl _ _ 173 rfl w.heap.size 5 i0 _ 1 1 Tryz.underlying173 hi hz0 hz1 hz2 rfl (by decide) _ _ _ rfl (hT7.own.alloc _) ⟨w7.heap.size, 0, none⟩ 1 1 [.int .u8 _] rfl rfl (cell_one_new _ _ _ _ rfl) (int_one _ _) (by unfold maxLen; simp only [ByteArray.size_append, ch_size]; omega) (by simp only [ByteArray.size_append, ch_size]; omega) (by have := hT7.gr.size; simp; omega) ?_; intro v8 w8 ho8 hg8 _)
              have hT8 := hT7.byte hM hg8 ho8 (m := y) (by omega) (by omega) (by omega)
              clear hg8 ho8
              go_roundw
              case rel =>
                refine ⟨j + 1, X ++ wTerm (⟨(decide (a = 1)), false, op, y⟩ : Tm) false, ts ++ [⟨(decide (a = 1)), false, op, y⟩], by go_num, by omega, by simp; omega, ?_, ?_, ?_, ?_⟩
                · have e : X ++ wTerm (⟨(decide (a = 1)), false, op, y⟩ : Tm) false = X ++ ch (mk (⟨(decide (a = 1)), false, op, 0⟩ : Tm) false) ++ ch y := by rw [wTerm_thin]; simp only [app_assoc]
                  rw [e]; exact hT8
                · refine allT_snoc _ _ _ _ hall ?_ ?_
                  · simp [isT, opM, mxV, hk5]; omega
                  · have : ts.isEmpty = false := by cases ts <;> simp_all
                    simp [this]
                · exact fun hlt => by rw [wInit_snoc, ← app_assoc, ← hXi.out (by omega)]
                · exact fun he => by exfalso; omega
              case measure => simp [intOf]; omega
            · go_wp2_with (at_builtin; refine wpList_append_own _ rfl _ _ 173 rfl w.heap.size 5 i0 _ 1 1 Tryz.underlying173 hi hz0 hz1 hz2 rfl (by decide) _ _ _ rfl (hT3.own.alloc _) ⟨w3.heap.size, 0, none⟩ 1 1 [.int .u8 _] rfl rfl (cell_one_new _ _ _ _ rfl) (int_one _ _) (by unfold maxLen; omega) (by omega) (by have := hT3.gr.size; simp; omega) ?_; intro v4 w4 ho4 hg4 _)
              have hmk : mk (⟨(decide (a = 1)), true, op, 0⟩ : Tm) false = op + 64 * a + 16 + 0 := by show _ + b2 (decide (a = 1)) 64 + _ + _ = _; rw [b2_dec a 64 a0 a1]; rfl
              have hT4 := hT3.byte hM hg4 ho4 (m := mk (⟨(decide (a = 1)), true, op, 0⟩ : Tm) false) (by rw [hmk]; omega) (by rw [hmk]; omega) (by rw [hmk]; omega)
              clear hg4 ho4 hmk
              go_wp2_with fail
              refine (pickM_any M ao n cap 256 _ (by omega) (by omega) hT4.mkr).mono ?_
              rintro e w5 ⟨x, rfl, x0, x1, hm_x, hg_x⟩
              have hT5 := hT4.pick hM hm_x hg_x
              clear hm_x hg_x
              go_wp2_with (at_builtin; refine wpList_append_own _ rfl _ _ 173 rfl w.heap.size 5 i0 _ 1 1 Tryz.underlying173 hi hz0 hz1 hz2 rfl (by decide) _ _ _ rfl (hT5.own.alloc _) ⟨w5.heap.size, 0, none⟩ 1 1 [.int .u8 _] rfl rfl (cell_one_new _ _ _ _ rfl) (int_one _ _) (by unfold maxLen; simp only [ByteArray.size_append, ch_size]; omega) (by simp only [ByteArray.size_append, ch_size]; omega) (by have := hT5.gr.size; simp; omega) ?_; intro v6 w6 ho6 hg6 _)
              have hT6 := hT5.byte hM hg6 ho6 (m := x) (by omega) (by omega) (by omega)
              clear hg6 ho6
              go_wp2_with fail
              refine (pickM_any M ao n cap 256 _ (by omega) (by omega) hT6.mkr).mono ?_
              rintro e w7 ⟨y, rfl, y0, y1, hm_y, hg_y⟩
              have hT7 := hT6.pick hM hm_y hg_y
              clear hm_y hg_y
              go_wp2_with (at_builtin; refine wpList_append_own _ rfl _ _ 173 rfl w.heap.size 5 i0 _ 1 1 Tryz.underlying173 hi hz0 hz1 hz2 rfl (by decide) _ _ _ rfl (hT7.own.alloc _) ⟨w7.heap.size, 0, none⟩ 1 1 [.int .u8 _] rfl rfl (cell_one_new _ _ _ _ rfl) (int_one _ _) (by unfold maxLen; simp only [ByteArray.size_append, ch_size]; omega) (by simp only [ByteArray.size_append, ch_size]; omega) (by have := hT7.gr.size; simp; omega) ?_; intro v8 w8 ho8 hg8 _)
              have hT8 := hT7.byte hM hg8 ho8 (m := y) (by omega) (by omega) (by omega)
              clear hg8 ho8
              go_roundw
              case rel =>
                refine ⟨j + 1, X ++ wTerm (⟨(decide (a = 1)), true, op, (x * 256 + y)⟩ : Tm) false, ts ++ [⟨(decide (a = 1)), true, op, (x * 256 + y)⟩], by go_num, by omega, by simp; omega, ?_, ?_, ?_, ?_⟩
                · have e : X ++ wTerm (⟨(decide (a = 1)), true, op, (x * 256 + y)⟩ : Tm) false = X ++ ch (mk (⟨(decide (a = 1)), true, op, 0⟩ : Tm) false) ++ ch x ++ ch y := by rw [wTerm_wide _ _ _ x y 0 y0 y1]; simp only [app_assoc]
                  rw [e]; exact hT8
                · refine allT_snoc _ _ _ _ hall ?_ ?_
                  · simp [isT, opM, mxV, hk5]; omega
                  · have : ts.isEmpty = false := by cases ts <;> simp_all
                    simp [this]
                · exact fun hlt => by rw [wInit_snoc, ← app_assoc, ← hXi.out (by omega)]
                · exact fun he => by exfalso; omega
              case measure => simp [intOf]; omega
    · have hX : X = ch k ++ wTerms ts := hXt.out (by omega)
      have hX' : 0 < X.size := by rw [hX, ByteArray.size_append, ch_size]; omega
      have hcv := conv_own hT.own hX'
      have HX : Hid (X = ch k ++ wTerms ts) := hX
      clear hX
      go_wp2
      go_ret
      exact ⟨ts, by rw [← HX.out]; rfl, by omega, by omega, hall, hT.mkr, hT.gr⟩
end Go.Proofs.YtgkiknfpcbcnnabGreat

namespace Go.Proofs.YtgkiknfpcbcnnabGreat
open Go.RowKit
set_option maxRecDepth 20000

/-- Numbers lie at ao. -/
def IntsAt (w : World) (ao : Option Addr) (n : Nat) : Prop :=
  ∀ i, i < n → ∃ b off z, ao = some ⟨b, off, none⟩ ∧ w.cell? ⟨b, off + i, none⟩ = some (.int .i64 z) ∧ -9223372036854775808 ≤ z ∧ z ≤ 9223372036854775807

theorem Mk.made {w : World} {ao : Option Addr} {n cap : Nat} (h : IntsAt w ao n) (hn : n ≤ 9223372036854775807) : Mk (w.alloc (.cells #[.slice ao n cap, .int .i64 0] 93)) w.heap.size ao n cap := by
  refine ⟨hn, ?_, 0, Nat.zero_le _, heap_alloc_new w _⟩
  intro i hi
  obtain ⟨b, off, z, e, hc, h1, h2⟩ := h i hi
  have hlt := World.block_lt_of_cell? w _ hc
  exact ⟨b, off, z, e, hlt, by rw [(below_alloc w _).cell hlt]; exact hc, h1, h2⟩

theorem allP_snoc (q : Pt) : ∀ (ps : List Pt) (b : Int), allP b ps = true → b < q.ty → (∀ p ∈ ps, p.ty < q.ty) → isP q = true → allP b (ps ++ [q]) = true := by
  intro ps
  induction ps with
  | nil => intro b _ hb _ hq; simp [allP, hb, hq]
  | cons p r ih =>
    intro b h hb hl hq
    simp only [allP, Bool.and_eq_true] at h
    simp only [List.cons_append, allP, Bool.and_eq_true]
    exact ⟨h.1, ih p.ty h.2 (hl p (by simp)) (fun x hx => hl x (by simp [hx])) hq⟩

theorem wParts_snoc (ps : List Pt) (q : Pt) : wParts (ps ++ [q]) = wParts ps ++ wPart q := by
  induction ps with
  | nil => simp [wParts, app_nil, nil_app]
  | cons p r ih => simp only [List.cons_append, wParts, ih, app_assoc]

theorem wParts_size : ∀ (ps : List Pt) (b : Int), allP b ps = true → (wParts ps).size ≤ 25 * ps.length := by
  intro ps
  induction ps with
  | nil => intro b _; exact Nat.zero_le _
  | cons p r ih =>
    intro b h
    simp only [allP, Bool.and_eq_true] at h
    have := wPart_size h.1.2
    have := ih _ h.2
    simp only [wParts, ByteArray.size_append, List.length_cons]; omega

theorem all_dst : (⟨#[1, 0]⟩ : ByteArray) = wParts [⟨1, 0, 0, []⟩] := by
  apply ByteArray.ext
  simp [wParts, wPart, hasP, wPref, pB, wNum, ch, ByteArray.data_append]

set_option maxHeartbeats 1600000 in
theorem made_any (ao : Option Addr) (n cap : Nat) (w : World) (hn : n ≤ 9223372036854775807) (h : IntsAt w ao n) :
    Calls Tryz.prog 52 #[.slice ao n cap] w fun e w' => ∃ ps : List Pt, e = .returned (.string (wParts ps)) ∧ isR ps = true ∧ Below w.heap.size w w' := by
  have hm0 : Mk (w.alloc (.cells #[.slice ao n cap, .int .i64 0] 93)) w.heap.size ao n cap := Mk.made h hn
  go_enter Tryz.func52, Tryz.ntmps52
  go_wp2
  go_loopw [4, 5] (fun s kd wr => ∃ (k : Nat) (ps : List Pt), kd = .int .i64 k ∧ 1 ≤ k ∧ k ≤ 6 ∧ s = .string (wParts ps) ∧ allP 0 ps = true ∧ Hid (∀ p ∈ ps, p.ty < k) ∧ Mk wr w.heap.size ao n cap ∧ Below w.heap.size w wr) (fun _ kd _ => 6 - (intOf kd).toNat)
  case atStart => exact ⟨1, [], rfl, by omega, by omega, rfl, rfl, by intro p hp; simp at hp, hm0, below_alloc _ _⟩
  case round =>
    obtain ⟨k, ps, rfl, k1, k6, rfl, hall, hlow, hm, hbel⟩ := hrel
    clear hm0
    have hz := hbel.size
    have hsz := wParts_size ps 0 hall
    have hlen := allP_len ps 0 (by omega) (by omega) hall
    by_cases hlt : k ≤ 5
    · go_wp2_with fail
      refine (pickM_any w.heap.size ao n cap 2 _ (by omega) (by omega) hm).mono ?_
      rintro e w1 ⟨a, rfl, a0, a1, hm1, hg1⟩
      have hb1 := Mk.step hbel hz (Nat.le_refl _) hg1
      clear hm hg1
      have ha : a = 0 ∨ a = 1 := by omega
      rcases ha with rfl | rfl
      · go_wp2
        go_roundw
        case rel => exact ⟨k + 1, ps, by go_num, by omega, by omega, rfl, hall, fun p hp => by have := hlow.out p hp; omega, hm1, hb1⟩
        case measure => simp [intOf]; omega
      · by_cases hk2 : k ≤ 2
        · go_wp2_with fail
          refine (prefixM_any w.heap.size ao n cap _ hm1).mono ?_
          rintro e w2 ⟨b, l, rfl, hok, hm2, hg2⟩
          have hb2 := Mk.step hb1 hb1.size (Nat.le_refl _) hg2
          clear hm1 hg2
          go_wp2_with fail
          refine (prefixPart_any _ b l _ (by omega) (by omega) hok).mono ?_
          rintro e w3 ⟨rfl, hb3⟩
          have hs3 := wPref_size b l
          have hs4 : (ch k ++ wPref b l).size ≤ 4 := by rw [ByteArray.size_append, ch_size]; omega
          have hm3 := (hm2.below (below_alloc _ _)).below hb3
          have hbF := (hb2.alloc hb2.size _).trans (hb3.mono (by have := hb2.size; simp; omega))
          clear hm2 hb3 hb2 hb1 hbel
          go_wp2
          go_roundw
          case rel =>
            have hk : hasP (k : Int) = true := by simp [hasP]; omega
            have e : wParts ps ++ (ch k ++ wPref b l) = wParts (ps ++ [⟨k, b, l, []⟩]) := by rw [wParts_snoc]; unfold wPart; dsimp only; rw [if_pos hk]
            refine ⟨k + 1, ps ++ [⟨k, b, l, []⟩], by go_num, by omega, by omega, by rw [← e], ?_, ?_, hm3, hbF⟩
            · exact allP_snoc _ _ _ hall (by simp; omega) (fun p hp => hlow.out p hp) (by unfold isP; dsimp only; rw [if_pos hk]; simp [hok])
            · intro p hp
              rw [List.mem_append, List.mem_singleton] at hp
              rcases hp with hp | rfl
              · have := hlow.out p hp; omega
              · show (k : Int) < ((k + 1 : Nat) : Int); omega
          case measure => simp [intOf]; omega
        · go_wp2_with fail
          refine (termsM_any w.heap.size ao n cap _ _ (by omega) hm1).mono ?_
          rintro e w2 ⟨ts, rfl, t1, t8, hts, hm2, hg2⟩
          have hb2 := Mk.step hb1 hb1.size (Nat.le_refl _) hg2
          have hs3 := wTerms_size ts
          have hs4 : (ch k ++ wTerms ts).size ≤ 25 := by rw [ByteArray.size_append, ch_size]; omega
          clear hm1 hg2
          go_wp2
          go_roundw
          case rel =>
            have hk : hasP (k : Int) = false := by simp [hasP]; omega
            have hk' : hasT (k : Int) = true := by simp [hasT]; omega
            have e : wParts ps ++ (ch k ++ wTerms ts) = wParts (ps ++ [⟨k, 0, 0, ts⟩]) := by rw [wParts_snoc]; unfold wPart; dsimp only; rw [if_neg (by simp [hk])]
            refine ⟨k + 1, ps ++ [⟨k, 0, 0, ts⟩], by go_num, by omega, by omega, by rw [← e], ?_, ?_, hm2, hb2⟩
            · exact allP_snoc _ _ _ hall (by simp; omega) (fun p hp => hlow.out p hp) (by unfold isP areT; dsimp only; rw [if_neg (by simp [hk]), if_pos hk']; simp [hts]; omega)
            · intro p hp
              rw [List.mem_append, List.mem_singleton] at hp
              rcases hp with hp | rfl
              · have := hlow.out p hp; omega
              · show (k : Int) < ((k + 1 : Nat) : Int); omega
          case measure => simp [intOf]; omega
    · by_cases hn0 : ps = []
      · subst hn0
        have he : (wParts []).toList.isEmpty = true := by rw [ByteArray.toList_eq]; rfl
        clear hsz
        go_wp2
        go_ret
        exact ⟨[⟨1, 0, 0, []⟩], congrArg (fun b => Ending.returned (.string b)) all_dst, by decide, hbel⟩
      · have he : (wParts ps).toList.isEmpty = false := by
          rw [ByteArray.toList_eq]
          cases hv : (wParts ps).data.toList with
          | cons a l => rfl
          | nil =>
            exfalso
            have hz0 : (wParts ps).size = 0 := by rw [← bl_len]; unfold bl; rw [hv]; rfl
            cases ps with
            | nil => exact hn0 rfl
            | cons p r => have := wPart_pos p; simp only [wParts, ByteArray.size_append] at hz0; omega
        have hR : isR ps = true := by
          unfold isR; rw [hall]
          cases ps with
          | nil => exact absurd rfl hn0
          | cons p r => simp
        clear hn0
        go_wp2
        go_ret
        exact ⟨ps, rfl, hR, hbel⟩
end Go.Proofs.YtgkiknfpcbcnnabGreat

namespace Go.Proofs.YtgkiknfpcbcnnabGreat
open Go.RowKit
set_option maxRecDepth 20000

theorem flat4_at {α : Type} (f : α → List Value) (hf : ∀ a, (f a).length = 4) : ∀ (l : List α) (i : Nat) (h : i < l.length) (j : Nat), j < 4 → (l.flatMap f)[i * 4 + j]? = (f l[i])[j]? := by
  intro l
  induction l with
  | nil => intro i h; simp at h
  | cons a r ih =>
    intro i h j hj
    rw [List.flatMap_cons]
    cases i with
    | zero => rw [List.getElem?_append_left (by rw [hf]; omega)]; simp
    | succ i =>
      rw [List.getElem?_append_right (by rw [hf]; omega), hf]
      have e : (i + 1) * 4 + j - 4 = i * 4 + j := by omega
      rw [e, ih i (by simpa using h) j hj]
      simp

theorem add0 (g k : Nat) : (⟨g, 0, none⟩ : Addr).add k = ⟨g, 0 + k, none⟩ := by unfold Addr.add; split <;> simp_all

theorem owns_terms_in {w : World} {B : Nat} {ao : Option Addr} {cap : Nat} {ts : List Tm} (h : w.ownsRow B 162 4 (.slice ao ts.length cap) ts.length (tcells ts)) : TermsIn w ao ts := by
  intro i hi
  rcases h.2 with ⟨_, h0⟩ | ⟨g, cap', cur, hv, _⟩
  · omega
  · simp only [Value.slice.injEq] at hv
    obtain ⟨rfl, _, _⟩ := hv
    have hc : ∀ j u, j < 4 → (tcell ts[i])[j]? = some u → w.cell? ⟨g, 0 + i * 4 + j, none⟩ = some u := by
      intro j u hj hu
      have := h.cells (g := g) rfl (i * 4 + j) u (by unfold tcells; rw [flat4_at tcell (fun _ => rfl) ts i hi j hj]; exact hu)
      rw [add0, ← Nat.add_assoc] at this
      exact this
    exact ⟨g, 0, rfl, hc 0 _ (by omega) rfl, hc 1 _ (by omega) rfl, hc 2 _ (by omega) rfl, hc 3 _ (by omega) rfl⟩

theorem RuleAt.reads {w : World} {B : Nat} {ao : Option Addr} {cap : Nat} {qs : List (Pt × Value)} (h : RuleAt w B (.slice ao qs.length cap) qs) (hs : ∀ q ∈ qs, q.1.ts.length ≤ 140737488351232) : PartsIn w ao (qs.map Prod.fst) := by
  intro i hi
  rw [List.length_map] at hi
  rcases h.parts.2 with ⟨_, h0⟩ | ⟨g, cap', cur, hv, _⟩
  · omega
  · simp only [Value.slice.injEq] at hv
    obtain ⟨rfl, _, _⟩ := hv
    have hc : ∀ j u, j < 4 → (pcell qs[i])[j]? = some u → w.cell? ⟨g, 0 + i * 4 + j, none⟩ = some u := by
      intro j u hj hu
      have := h.parts.cells (g := g) rfl (i * 4 + j) u (by unfold pcells; rw [flat4_at pcell (fun _ => rfl) qs i hi j hj]; exact hu)
      rw [add0, ← Nat.add_assoc] at this
      exact this
    have ht := h.terms qs[i] (List.getElem_mem hi)
    obtain ⟨tao, tcap, he⟩ := ownsRow_shape ht
    rw [he] at ht
    simp only [List.getElem_map]
    exact ⟨g, 0, tao, tcap, rfl, hc 0 _ (by omega) rfl, hc 1 _ (by omega) rfl, hc 2 _ (by omega) rfl, hc 3 _ (by omega) (by rw [← he]; rfl), hs _ (List.getElem_mem hi), owns_terms_in ht⟩

/-! A rule without its last byte is none. -/
theorem wPart_two {p : Pt} (h : isP p = true) : 2 ≤ (wPart p).size := by
  unfold wPart
  cases hk : hasP p.ty
  · obtain ⟨h1, h2, h3, h4, h5, h6⟩ := isP_terms h hk
    simp only [Bool.false_eq_true, if_false, ByteArray.size_append, ch_size]
    cases hts : p.ts with
    | nil => rw [hts] at h4; simp at h4
    | cons t r => simp only [wTerms, ByteArray.size_append, wTerm, ch_size]; omega
  · simp only [if_true, ByteArray.size_append, ch_size, wPref]; omega

theorem prefix_parts (s : ByteArray) : ∀ (qs ps : List Pt) (a : Nat) (b c : Int), allP b qs = true → allP c ps = true → At s a (wParts qs) → At s a (wParts ps) → (wParts qs).size ≤ (wParts ps).size → ∃ r, ps = qs ++ r := by
  intro qs
  induction qs with
  | nil => intro ps _ _ _ _ _ _ _ _; exact ⟨ps, rfl⟩
  | cons q r ih =>
    intro ps a b c hq hp aq ap hs
    simp only [allP, Bool.and_eq_true] at hq
    cases ps with
    | nil => exfalso; have := wPart_pos q; simp only [wParts, ByteArray.size_append] at hs; have : (⟨#[]⟩ : ByteArray).size = 0 := rfl; omega
    | cons p t =>
      simp only [allP, Bool.and_eq_true] at hp
      simp only [wParts, At_app] at aq ap
      have e1 := rdPart_complete s a q hq.1.2 aq.1
      have e2 := rdPart_complete s a p hp.1.2 ap.1
      rw [e1] at e2
      simp only [Option.some.injEq, Prod.mk.injEq] at e2
      obtain ⟨rfl, _⟩ := e2
      simp only [wParts, ByteArray.size_append] at hs
      obtain ⟨x, hx⟩ := ih t _ _ _ hq.2 hp.2 aq.2 ap.2 (by omega)
      exact ⟨x, by rw [hx]; rfl⟩

theorem decS_cut (ps : List Pt) (h : isR ps = true) (s' : ByteArray) (hs : s'.size + 1 = (wParts ps).size) (hat : At (wParts ps) 0 s') : decS s' = none := by
  apply decS_none
  intro qs hq he
  unfold isR at h hq
  simp only [Bool.and_eq_true] at h hq
  rw [← he] at hat hs
  obtain ⟨r, hr⟩ := prefix_parts (wParts ps) qs ps 0 0 0 hq.1 h.1 hat (At_self _) (by omega)
  have e : (wParts ps).size = (wParts qs).size + (wParts r).size := by
    have : ∀ x y : List Pt, (wParts (x ++ y)).size = (wParts x).size + (wParts y).size := by
      intro x y
      induction x with
      | nil => show (wParts y).size = 0 + _; omega
      | cons p t ih => simp only [List.cons_append, wParts, ByteArray.size_append, ih]; omega
    rw [hr]; exact this qs r
  cases r with
  | nil => have : (wParts []).size = 0 := rfl; omega
  | cons p t =>
    have hp : isP p = true := by
      have := allP_get ps 0 h.1 qs.length (by rw [hr]; simp)
      simpa [hr] using this
    have := wPart_two hp
    simp only [wParts, ByteArray.size_append] at e
    omega

theorem decode_yes' (s : ByteArray) (ps : List Pt) (w : World) (hs : s.size ≤ 140737488351232) (h : Hid (decS s = some ps)) :
    Calls Tryz.prog 28 #[.string s] w fun e w' => (∃ ao cap qs, e = .returned (.tuple #[.agg #[.slice ao qs.length cap], .int .i64 0]) ∧ qs.map Prod.fst = ps ∧ RuleAt w' w.heap.size (.slice ao qs.length cap) qs) ∧ Below w.heap.size w w' :=
  (decode_any s w hs).mono fun e w' ⟨hb, hd⟩ => by
    unfold DecPost at hd
    rw [h.out] at hd
    obtain ⟨v, qs, he, hq, hr⟩ := hd
    obtain ⟨ao, cap, rfl⟩ := ownsRow_shape hr.parts
    exact ⟨⟨ao, cap, qs, he, hq, hr⟩, hb⟩

theorem decode_no' (s : ByteArray) (w : World) (hs : s.size ≤ 140737488351232) (h : Hid (decS s = none)) :
    Calls Tryz.prog 28 #[.string s] w fun e w' => e = .returned (.tuple #[.agg #[.slice none 0 0], .int .i64 1]) ∧ Below w.heap.size w w' :=
  (decode_any s w hs).mono fun e w' ⟨hb, hd⟩ => by
    unfold DecPost at hd
    rw [h.out] at hd
    exact ⟨hd, hb⟩

theorem isR_small {ps : List Pt} (h : isR ps = true) : ps.length ≤ 5 ∧ 0 < ps.length ∧ ∀ p ∈ ps, p.ts.length ≤ 140737488351232 := by
  unfold isR at h
  simp only [Bool.and_eq_true, decide_eq_true_eq] at h
  have := allP_len ps 0 (by omega) (by omega) h.1
  refine ⟨by omega, h.2, fun p hp => ?_⟩
  obtain ⟨i, hi, rfl⟩ := List.getElem_of_mem hp
  have hP := allP_get ps 0 h.1 i hi
  cases hk : hasP ps[i].ty
  · have := (isP_terms hP hk).2.2.2.2.1; omega
  · rw [(isP_pref hP hk).1]; simp

theorem bl_extract (s : ByteArray) (a : Nat) : bl (s.extract 0 a) = (bl s).take a := by
  unfold bl; simp [ByteArray.data_extract]

end Go.Proofs.YtgkiknfpcbcnnabGreat
