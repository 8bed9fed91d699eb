import Derived.Test.YtgkiknfpcbcnnaaGaj
namespace Go.Proofs.Ytgkiknfpcbcnnaa
open Go.RowKit
set_option maxRecDepth 20000

/-- The law's struct, made anew. -/
theorem LC.start {X : XBase} {w' : World} {wl : Nat} (hw : w'.heap[wl]? = some (.cells #[.slice none 0 0, .bool false, .slice none 0 0, .slice none 0 0, .slice none 0 0] 65 (0, 0))) :
    LC X w' wl (fun b => if b = wl then 0 else 7) false (.slice none 0 0) (.slice none 0 0) [] [] :=
  ⟨⟨none, 0, none, 0, hw, ⟨World.ownsRow_nil _ _ _ _, by simp [Value.ownBlock], by intro i h; simp at h⟩, ⟨World.ownsRow_nil _ _ _ _, by simp [Value.ownBlock], by intro k h; simp at h⟩⟩, by simp⟩

set_option maxHeartbeats 1600000 in
theorem opens_any (X : XBase) (c : Cf) (w : World) : Calls Try.prog 8 #[cfV c] w fun e w' => e = .returned (.bool true) ∧ Below w.heap.size w w' := by
  have HO : Hid (∀ {w : World} {wl : Nat} {lab : Nat → Nat} {ps : List Pr} (d : Cf), LC X w wl lab false (.slice none 0 0) (.slice none 0 0) ps [] → ps.length ≤ 1 → Calls Try.prog 33 #[.pointer (some ⟨wl, 0, none⟩), .agg #[.int .i64 d.cp, .int .i64 d.bu, .int .i64 d.n0, .int .i64 d.n1, .int .i64 d.n2, .int .i64 d.n3]] w fun e w' => e = .returned (.bool true) ∧ ∃ lab' ps', LC X w' wl lab' false (.slice none 0 0) (.slice none 0 0) ps' [] ∧ ps'.length ≤ ps.length + 1 ∧ (∀ b, b < w.heap.size → lab' b = lab b) ∧ Off (fun b => lab b = 0 ∨ lab b = 1) w w') := by
    intro w wl lab ps d hl hp
    have := opened_any X hl d (Nat.le_trans (Nat.mul_le_mul_right 8 (Nat.succ_le_succ hp)) (by decide))
    unfold ptrV cfV at this
    refine this.mono ?_
    rintro e w' ⟨rfl, lab', qs, h1, h2, _, h3, h4⟩
    exact ⟨rfl, lab', ps ++ qs, h1, by rw [List.length_append]; omega, h3, h4⟩
  have HA : Hid (∀ {w : World} {wl : Nat} {lab : Nat → Nat} {ps : List Pr}, LC X w wl lab false (.slice none 0 0) (.slice none 0 0) ps [] → ps.length ≤ 2 → Calls Try.prog 34 #[.pointer (some ⟨wl, 0, none⟩)] w fun e w' => e = .returned (.bool true) ∧ Off (fun b => lab b ≠ 7) w w') := by
    intro w wl lab ps hl hp
    have := asked_any X hl (by simp only [List.length_nil]; omega)
    unfold ptrV at this
    exact this
  unfold cfV
  obtain ⟨wA, hwA⟩ : ∃ wA, wA = (w.alloc (.cells #[.int .i64 c.cp, .int .i64 c.bu, .int .i64 c.n0, .int .i64 c.n1, .int .i64 c.n2, .int .i64 c.n3] 58)).alloc (.cells #[.slice none 0 0, .bool false, .slice none 0 0, .slice none 0 0, .slice none 0 0] 65) := ⟨_, rfl⟩
  have HWA : Hid (wA = (w.alloc (.cells #[.int .i64 c.cp, .int .i64 c.bu, .int .i64 c.n0, .int .i64 c.n1, .int .i64 c.n2, .int .i64 c.n3] 58)).alloc (.cells #[.slice none 0 0, .bool false, .slice none 0 0, .slice none 0 0, .slice none 0 0] 65)) := hwA
  have hbA : Below w.heap.size w wA := by rw [hwA]; exact ((Below.refl w.heap.size w).alloc (Nat.le_refl _) _).alloc (by simp) _
  have hlA : wA.heap[w.heap.size + 1]? = some (.cells #[.slice none 0 0, .bool false, .slice none 0 0, .slice none 0 0, .slice none 0 0] 65 (0, 0)) := by rw [hwA]; exact heap_at_new (w.alloc _) _ _ (by simp)
  have hcA : wA.heap[w.heap.size]? = some (.cells #[.int .i64 c.cp, .int .i64 c.bu, .int .i64 c.n0, .int .i64 c.n1, .int .i64 c.n2, .int .i64 c.n3] 58 (0, 0)) := by rw [hwA]; exact (heap_alloc_old (w.alloc _) _ (by simp)).trans (heap_alloc_new w _)
  clear hwA
  go_enter Try.func8, Try.ntmps8
  go_wp2_with fail
  rw [← HWA.out]
  refine (some_any wA).mono ?_
  rintro e w1 ⟨rfl, hb1⟩
  unfold cfV
  obtain ⟨wB, hwB⟩ : ∃ wB, wB = w1.alloc (.cells #[.int .i64 3, .int .i64 2, .int .i64 1, .int .i64 1, .int .i64 2, .int .i64 3] 58) := ⟨_, rfl⟩
  have HWB : Hid (wB = w1.alloc (.cells #[.int .i64 3, .int .i64 2, .int .i64 1, .int .i64 1, .int .i64 2, .int .i64 3] 58)) := hwB
  have hbB : Below w1.heap.size w1 wB := by rw [hwB]; exact below_alloc _ _
  clear hwB
  have hzA := hbA.size
  have hzl := lt_of_block hlA
  have hzc := lt_of_block hcA
  have hz1 := hb1.size
  have hzB := hbB.size
  have hAB : Below wA.heap.size wA wB := hb1.trans (hbB.mono hz1)
  have hLB : LC X wB (w.heap.size + 1) (fun b => if b = w.heap.size + 1 then 0 else 7) false (.slice none 0 0) (.slice none 0 0) [] [] := LC.start ((hAB.block _ hzl).trans hlA)
  have HLB : Hid (LC X wB (w.heap.size + 1) (fun b => if b = w.heap.size + 1 then 0 else 7) false (.slice none 0 0) (.slice none 0 0) [] []) := hLB
  have HCB : Hid (wB.heap[w.heap.size]? = some (.cells #[.int .i64 c.cp, .int .i64 c.bu, .int .i64 c.n0, .int .i64 c.n1, .int .i64 c.n2, .int .i64 c.n3] 58 (0, 0))) := (hAB.block _ hzc).trans hcA
  have hbwB : Below w.heap.size w wB := hbA.trans (hAB.mono hzA)
  clear hLB hlA hcA hb1 hbB hAB hbA
  go_wp2_with fail
  rw [← HWB.out]
  refine (HO.out ⟨3, 2, 1, 1, 2, 3⟩ HLB.out (by simp)).mono ?_
  rintro e w2 ⟨rfl, lab2, ps2, hl2, hp2, hlab2, hoff2⟩
  have HL2 : Hid (LC X w2 (w.heap.size + 1) lab2 false (.slice none 0 0) (.slice none 0 0) ps2 []) := hl2
  have hz2 := hoff2.size
  have hc2 : w2.heap[w.heap.size]? = some (.cells #[.int .i64 c.cp, .int .i64 c.bu, .int .i64 c.n0, .int .i64 c.n1, .int .i64 c.n2, .int .i64 c.n3] 58 (0, 0)) := (hoff2.block _ (lt_of_block HCB.out) (by simp)).trans HCB.out
  have a0 := cell_of_row w2 w.heap.size 0 _ _ _ hc2
  have a1 := cell_of_row w2 w.heap.size 1 _ _ _ hc2
  have a2 := cell_of_row w2 w.heap.size 2 _ _ _ hc2
  have a3 := cell_of_row w2 w.heap.size 3 _ _ _ hc2
  have a4 := cell_of_row w2 w.heap.size 4 _ _ _ hc2
  have a5 := cell_of_row w2 w.heap.size 5 _ _ _ hc2
  have hB2 : Below w.heap.size w w2 := hbwB.trans (hoff2.free hbwB.size (fun b hb => by
    have : ¬ b = w.heap.size + 1 := by omega
    simp [this]))
  have HLA2 : Hid (∀ b, b < w.heap.size → lab2 b = 7) := fun b hb => by
    have e := hlab2 b (by omega)
    rw [e]
    exact if_neg (by omega)
  have hp2' : ps2.length ≤ 1 := by simpa using hp2
  clear hl2 hlab2 hoff2 hc2 hp2 HLB HCB hbwB
  go_wp2_with fail
  refine (HO.out c HL2.out hp2').mono ?_
  rintro e w3 ⟨rfl, lab3, ps3, hl3, hp3, hlab3, hoff3⟩
  have HL3 : Hid (LC X w3 (w.heap.size + 1) lab3 false (.slice none 0 0) (.slice none 0 0) ps3 []) := hl3
  have hz3 := hoff3.size
  have hB3 : Below w.heap.size w w3 := hB2.trans (hoff3.free hB2.size (fun b hb => by have := HLA2.out b hb; omega))
  have HLA3 : Hid (∀ b, b < w.heap.size → lab3 b = 7) := fun b hb => by rw [hlab3 b (by have := hB2.size; omega)]; exact HLA2.out b hb
  have hp3' : ps3.length ≤ 2 := by omega
  clear hl3 hlab3 hoff3 hp3 hp2' HL2 a0 a1 a2 a3 a4 a5
  go_wp2_with fail
  refine (HA.out HL3.out hp3').mono ?_
  rintro e w4 ⟨rfl, hoff4⟩
  have hB4 : Below w.heap.size w w4 := hB3.trans (hoff4.free hB3.size (fun b hb => by have := HLA3.out b hb; omega))
  clear hoff4
  go_wp2_with fail
  go_ret
  exact ⟨rfl, hB4⟩
end Go.Proofs.Ytgkiknfpcbcnnaa
