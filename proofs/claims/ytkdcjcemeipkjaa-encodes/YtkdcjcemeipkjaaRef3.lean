import Derived.Test.YtkdcjcemeipkjaaRef2
set_option linter.unusedSimpArgs false
namespace Go.Proofs.Ytkdcjcemeipkjaa
open Go.RowKit
set_option maxRecDepth 20000

/-- A row of bytes of the call's own; what lay in W0 lies there still. -/
structure BW (W0 w : World) (v : Value) (X : ByteArray) : Prop where
  gr : Below W0.heap.size W0 w
  own : w.ownsRow W0.heap.size 5 1 v X.size (bv X)

theorem BW.app {W0 w w1 : World} {v v1 : Value} {X Y : ByteArray} {o : Obj} {news : List Value} {m : Nat} (h : BW W0 w v X) (hg : (w.alloc o).grownBy w1 v.ownBlock) (ho : w1.ownsRow W0.heap.size 5 1 v1 (X.size + m) (bv X ++ news)) (hn : news = bv Y) : BW W0 w1 v1 (X ++ Y) := by
  subst hn
  refine ⟨below_byte h.gr h.gr.size h.own hg, ?_⟩
  have hm : X.size + m = (X ++ Y).size := by have := ho.1; rw [List.length_append, bv_len, bv_len] at this; rw [ByteArray.size_append]; omega
  rw [bv_app, ← hm]; exact ho

theorem BW.alloc {W0 w : World} {v : Value} {X : ByteArray} (h : BW W0 w v X) (o : Obj) : BW W0 (w.alloc o) v X := ⟨h.gr.alloc h.gr.size o, h.own.alloc o⟩

theorem bv_two (a b : Int) (ha : 0 ≤ a) (ha1 : a ≤ 255) (hb : 0 ≤ b) (hb1 : b ≤ 255) : bv (ch a ++ ch b) = [.int .u8 a, .int .u8 b] := by
  rw [bv_app, bv_ch a ha ha1, bv_ch b hb hb1]; rfl
theorem bv_three (a b c : Int) (ha : 0 ≤ a) (ha1 : a ≤ 255) (hb : 0 ≤ b) (hb1 : b ≤ 255) (hc : 0 ≤ c) (hc1 : c ≤ 255) : bv (ch a ++ (ch b ++ ch c)) = [.int .u8 a, .int .u8 b, .int .u8 c] := by
  rw [bv_app, bv_two b c hb hb1 hc hc1, bv_ch a ha ha1]; rfl

theorem cell_two_new' (w : World) (k : Nat) (a b : Value) (t : TypeId) (hk : w.heap.size = k) : ∀ j u, [a, b][j]? = some u → (w.alloc (.cells #[a, b] t)).cell? ((⟨k, 0, none⟩ : Addr).add j) = some u := by
  subst hk
  intro j u hj
  match j, hj with
  | 0, hj => simp at hj; subst hj; simp [Addr.add]
  | 1, hj => simp at hj; subst hj; simp [Addr.add]
  | n + 2, hj => simp at hj
theorem cell_three_new' (w : World) (k : Nat) (a b c : Value) (t : TypeId) (hk : w.heap.size = k) : ∀ j u, [a, b, c][j]? = some u → (w.alloc (.cells #[a, b, c] t)).cell? ((⟨k, 0, none⟩ : Addr).add j) = some u := by
  subst hk
  intro j u hj
  match j, hj with
  | 0, hj => simp at hj; subst hj; simp [Addr.add]
  | 1, hj => simp at hj; subst hj; simp [Addr.add]
  | 2, hj => simp at hj; subst hj; simp [Addr.add]
  | n + 3, hj => simp at hj
theorem int_two (k : IntKind) (n m : Int) : ∀ u ∈ [Value.int k n, Value.int k m], u.oneCell' = true := by simp [Value.oneCell']
theorem int_three (k : IntKind) (n m q : Int) : ∀ u ∈ [Value.int k n, Value.int k m, Value.int k q], u.oneCell' = true := by simp [Value.oneCell']

set_option maxHeartbeats 1600000 in
theorem written_pref (p : Pt) (ao : Option Addr) (cap : Nat) (w : World) (k1 : 1 ≤ p.ty) (k2 : p.ty ≤ 2) (h : prefOK p.bt p.ln = true) :
    Calls Try.prog 32 #[.agg #[.int .i64 p.ty, .int .i64 p.bt, .int .i64 p.ln, .slice ao p.ts.length cap]] w fun e w' => e = .returned (.string (ch p.ty ++ wPref p.bt p.ln)) ∧ Below w.heap.size w w' := by
  obtain ⟨k, b, l, ts⟩ := p
  dsimp only at *
  obtain ⟨i0, hi, hz0, hz1, hz2⟩ := info_parts infoByte
  obtain ⟨l0, l1, b0, b1, _⟩ := prefOK_bd h
  have ek : k % 256 = k := by omega
  have el : l % 256 = l := by omega
  have eb : b / 256 % 256 = b / 256 := by omega
  have eb2 : b % 256 % 256 = b % 256 := by omega
  have hW0 : BW (w.alloc (.cells #[.int .i64 k, .int .i64 b, .int .i64 l, .slice ao ts.length cap] 35)) ((w.alloc (.cells #[.int .i64 k, .int .i64 b, .int .i64 l, .slice ao ts.length cap] 35)).alloc (.cells #[.int .u8 k] 5)) (.slice (some ⟨w.heap.size + 1, 0, none⟩) 1 1) (ch k) :=
    ⟨below_alloc _ _, by have := owns_one (w.alloc (.cells #[.int .i64 k, .int .i64 b, .int .i64 l, .slice ao ts.length cap] 35)) (w.alloc (.cells #[.int .i64 k, .int .i64 b, .int .i64 l, .slice ao ts.length cap] 35)).heap.size k (by omega) (by omega) (Nat.le_refl _); simpa using this⟩
  by_cases c1 : 0 < l
  · by_cases c2 : 8 < l
    · have e : ch k ++ wPref b l = ch k ++ ch l ++ ch (b / 256) ++ ch (b % 256) := by rw [wPref_two b l c2]; simp [app_assoc]
      rw [e]; clear e
      go_enter Try.func32, Try.ntmps32
      go_wp2_with (first
        | (at_builtin; refine wpList_append_own _ rfl (.tmp 14) (.tmp 19) 90 rfl _ 5 i0 _ 1 1 Try.underlying90 hi hz0 hz1 hz2 rfl (by decide) _ _ _ rfl (hW0.own.alloc _) ⟨w.heap.size + 2, 0, none⟩ 1 1 [.int .u8 l] rfl rfl (cell_one_new _ _ _ _ (by simp)) (int_one _ _) (by unfold maxLen; simp only [ch_size]; omega) (by simp only [ch_size]; omega) (by simp) ?_; intro v1 w1 ho1 hg1 _; have hW1 := hW0.app hg1 ho1 (bv_ch l l0 (by omega)).symm; have hcv1 := conv_own hW1.own (by simp only [ByteArray.size_append, ch_size]; omega); obtain ⟨p0, p1, p2, p3, pf, pz⟩ := cells_of_below hW1.gr; clear ho1 hg1)
        | (at_builtin; refine wpList_append_own _ rfl (.tmp 25) (.tmp 31) 90 rfl _ 5 i0 _ 1 1 Try.underlying90 hi hz0 hz1 hz2 rfl (by decide) _ _ _ rfl (hW1.own.alloc _) ⟨w1.heap.size, 0, none⟩ 1 1 [.int .u8 (b / 256)] rfl rfl (cell_one_new _ _ _ _ rfl) (int_one _ _) (by unfold maxLen; simp only [ByteArray.size_append, ch_size]; omega) (by simp only [ByteArray.size_append, ch_size]; omega) (by have := hW1.gr.size; simp at this ⊢; omega) ?_; intro v2 w2 ho2 hg2 _; have hW2 := hW1.app hg2 ho2 (bv_ch (b / 256) (by omega) (by omega)).symm; have hcv2 := conv_own hW2.own (by simp only [ByteArray.size_append, ch_size]; omega); obtain ⟨q0, q1, q2, q3, qf, qz⟩ := cells_of_below hW2.gr; clear ho2 hg2)
        | (at_builtin; refine wpList_append_own _ rfl (.tmp 37) (.tmp 43) 90 rfl _ 5 i0 _ 1 1 Try.underlying90 hi hz0 hz1 hz2 rfl (by decide) _ _ _ rfl (hW2.own.alloc _) ⟨w2.heap.size, 0, none⟩ 1 1 [.int .u8 (b % 256)] rfl rfl (cell_one_new _ _ _ _ rfl) (int_one _ _) (by unfold maxLen; simp only [ByteArray.size_append, ch_size]; omega) (by simp only [ByteArray.size_append, ch_size]; omega) (by have := hW2.gr.size; simp at this ⊢; omega) ?_; intro v3 w3 ho3 hg3 _; have hW3 := hW2.app hg3 ho3 (bv_ch (b % 256) (by omega) (by omega)).symm; have hcv3 := conv_own hW3.own (by simp only [ByteArray.size_append, ch_size]; omega); clear ho3 hg3))
      go_ret
      exact ⟨rfl, below_first hW3.gr⟩
    · have e : ch k ++ wPref b l = ch k ++ ch l ++ ch (b / 256) := by rw [wPref_one b l c1 c2]; simp [app_assoc]
      rw [e]; clear e
      go_enter Try.func32, Try.ntmps32
      go_wp2_with (first
        | (at_builtin; refine wpList_append_own _ rfl (.tmp 14) (.tmp 19) 90 rfl _ 5 i0 _ 1 1 Try.underlying90 hi hz0 hz1 hz2 rfl (by decide) _ _ _ rfl (hW0.own.alloc _) ⟨w.heap.size + 2, 0, none⟩ 1 1 [.int .u8 l] rfl rfl (cell_one_new _ _ _ _ (by simp)) (int_one _ _) (by unfold maxLen; simp only [ch_size]; omega) (by simp only [ch_size]; omega) (by simp) ?_; intro v1 w1 ho1 hg1 _; have hW1 := hW0.app hg1 ho1 (bv_ch l l0 (by omega)).symm; have hcv1 := conv_own hW1.own (by simp only [ByteArray.size_append, ch_size]; omega); obtain ⟨p0, p1, p2, p3, pf, pz⟩ := cells_of_below hW1.gr; clear ho1 hg1)
        | (at_builtin; refine wpList_append_own _ rfl (.tmp 25) (.tmp 31) 90 rfl _ 5 i0 _ 1 1 Try.underlying90 hi hz0 hz1 hz2 rfl (by decide) _ _ _ rfl (hW1.own.alloc _) ⟨w1.heap.size, 0, none⟩ 1 1 [.int .u8 (b / 256)] rfl rfl (cell_one_new _ _ _ _ rfl) (int_one _ _) (by unfold maxLen; simp only [ByteArray.size_append, ch_size]; omega) (by simp only [ByteArray.size_append, ch_size]; omega) (by have := hW1.gr.size; simp at this ⊢; omega) ?_; intro v2 w2 ho2 hg2 _; have hW2 := hW1.app hg2 ho2 (bv_ch (b / 256) (by omega) (by omega)).symm; have hcv2 := conv_own hW2.own (by simp only [ByteArray.size_append, ch_size]; omega); obtain ⟨q0, q1, q2, q3, qf, qz⟩ := cells_of_below hW2.gr; clear ho2 hg2))
      go_ret
      exact ⟨rfl, below_first hW2.gr⟩
  · have e : ch k ++ wPref b l = ch k ++ ch l := by rw [wPref_zero b l c1]
    rw [e]; clear e
    go_enter Try.func32, Try.ntmps32
    go_wp2_with (at_builtin; refine wpList_append_own _ rfl (.tmp 14) (.tmp 19) 90 rfl _ 5 i0 _ 1 1 Try.underlying90 hi hz0 hz1 hz2 rfl (by decide) _ _ _ rfl (hW0.own.alloc _) ⟨w.heap.size + 2, 0, none⟩ 1 1 [.int .u8 l] rfl rfl (cell_one_new _ _ _ _ (by simp)) (int_one _ _) (by unfold maxLen; simp only [ch_size]; omega) (by simp only [ch_size]; omega) (by simp) ?_; intro v1 w1 ho1 hg1 _; have hW1 := hW0.app hg1 ho1 (bv_ch l l0 (by omega)).symm; have hcv1 := conv_own hW1.own (by simp only [ByteArray.size_append, ch_size]; omega); obtain ⟨p0, p1, p2, p3, pf, pz⟩ := cells_of_below hW1.gr; clear ho1 hg1)
    go_ret
    exact ⟨rfl, below_first hW1.gr⟩
end Go.Proofs.Ytkdcjcemeipkjaa
