import Derived.Test.YtkdcjcemeipkjaaSame
namespace Go.Proofs.Ytkdcjcemeipkjaa
open Go.RowKit
set_option maxRecDepth 20000

theorem at_any (s : ByteArray) (a : Int) (w : World) (h0 : 0 ≤ a) (hs : s.size ≤ 140737488351232) :
    Calls Try.prog 43 #[.string s, .int .i64 a] w fun e w' => e = .returned (.int .i64 (byt s a)) ∧ w = w' := by
  by_cases h : a < s.size
  · have e1 : byt s a = (s[a.toNat]'(by omega)).toNat := by unfold byt; rw [dif_pos (by omega)]
    rw [e1]
    clear e1
    go_enter Try.func43, Try.ntmps43
    go_wp2
    go_ret
    refine ⟨?_, rfl⟩
    show Ending.returned (.int .i64 (wrap64 _)) = _
    rw [IntWalk.wrap64_in _ ⟨by omega, by have := (s[a.toNat]'(by omega)).toNat_lt; omega⟩]
  · have e1 : byt s a = 0 := by unfold byt; rw [dif_neg (by omega)]
    rw [e1]
    clear e1
    go_enter Try.func43, Try.ntmps43
    go_wp2
    go_ret
    exact ⟨rfl, rfl⟩

/-- The terms that bytes seem to say. -/
def smT (s : ByteArray) : Nat → Nat → List Tm × Nat
  | 0, n => ([], n)
  | f + 1, n =>
    let m := byt s n
    let t : Tm := ⟨mAnd m, mWide m, m % 8, if mWide m then 256 * byt s (n + 1) + byt s (n + 2) else byt s (n + 1)⟩
    let n' := if mWide m then n + 3 else n + 2
    if mLast m then ([t], n') else (t :: (smT s f n').1, (smT s f n').2)

/-- The part that bytes seem to begin with, and how many they are. -/
def sm (s : ByteArray) : Pt × Nat :=
  let ty := byt s 0
  if ty ≤ 2 then
    let ln := byt s 1
    if 8 < ln then (⟨ty, 256 * byt s 2 + byt s 3, ln, []⟩, 4) else if 0 < ln then (⟨ty, 256 * byt s 2, ln, []⟩, 3) else (⟨ty, 0, ln, []⟩, 2)
  else (⟨ty, 0, 0, (smT s 9 1).1⟩, (smT s 9 1).2)

theorem seems_pref (s : ByteArray) (w : World) (hs : s.size ≤ 140737488351232) (h : byt s 0 ≤ 2) :
    Calls Try.prog 25 #[.string s] w fun e w' => e = .returned (.tuple #[.agg #[.int .i64 (sm s).1.ty, .int .i64 (sm s).1.bt, .int .i64 (sm s).1.ln, .slice none 0 0], .int .i64 (sm s).2]) ∧ Below w.heap.size w w' := by
  have b0 := byt_nonneg s
  have b1 := byt_le s
  have x1 := b0 1
  have x2 := b0 2
  have x3 := b0 3
  have y1 := b1 1
  have y2 := b1 2
  have y3 := b1 3
  clear b0 b1
  by_cases h8 : 8 < byt s 1
  · have e : sm s = (⟨byt s 0, 256 * byt s 2 + byt s 3, byt s 1, []⟩, 4) := by unfold sm; dsimp only; rw [if_pos h, if_pos h8]
    rw [e]
    clear e
    go_enter Try.func25, Try.ntmps25
    go_wp2_with (go_at_call 43; refine (at_any _ _ _ (by omega) hs).mono ?_; rintro e w' ⟨rfl, rfl⟩)
    go_region_with (go_at_call 43; refine (at_any _ _ _ (by omega) hs).mono ?_; rintro e w' ⟨rfl, rfl⟩)
    all_goals go_wp2
    all_goals refine bodyPost_ret (v := .tuple #[.agg #[.int .i64 (byt s 0), .int .i64 (256 * byt s 2 + byt s 3), .int .i64 (byt s 1), .slice none 0 0], .int .i64 4]) (by simp [results, Try.results25, go_sem]) rfl ⟨rfl, ?_⟩
    all_goals exact ((below_alloc _ _).alloc (by simp) _).drew
  · by_cases h0 : 0 < byt s 1
    · have e : sm s = (⟨byt s 0, 256 * byt s 2, byt s 1, []⟩, 3) := by unfold sm; dsimp only; rw [if_pos h, if_neg h8, if_pos h0]
      rw [e]
      clear e
      go_enter Try.func25, Try.ntmps25
      go_wp2_with (go_at_call 43; refine (at_any _ _ _ (by omega) hs).mono ?_; rintro e w' ⟨rfl, rfl⟩)
      refine bodyPost_ret (v := .tuple #[.agg #[.int .i64 (byt s 0), .int .i64 (256 * byt s 2), .int .i64 (byt s 1), .slice none 0 0], .int .i64 3]) (by simp [results, Try.results25, go_sem]) rfl ⟨rfl, ?_⟩
      exact (below_alloc _ _).alloc (by simp) _
    · have e : sm s = (⟨byt s 0, 0, byt s 1, []⟩, 2) := by unfold sm; dsimp only; rw [if_pos h, if_neg h8, if_neg h0]
      rw [e]
      clear e
      go_enter Try.func25, Try.ntmps25
      go_wp2_with (go_at_call 43; refine (at_any _ _ _ (by omega) hs).mono ?_; rintro e w' ⟨rfl, rfl⟩)
      refine bodyPost_ret (v := .tuple #[.agg #[.int .i64 (byt s 0), .int .i64 0, .int .i64 (byt s 1), .slice none 0 0], .int .i64 2]) (by simp [results, Try.results25, go_sem]) rfl ⟨rfl, ?_⟩
      exact (below_alloc _ _).alloc (by simp) _
end Go.Proofs.Ytkdcjcemeipkjaa
