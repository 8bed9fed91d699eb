import Derived.Test.YtgkiknfpcbcnnaaCmp7
import Derived.WalkLawsBesides
namespace Go.Proofs.Ytgkiknfpcbcnnaa
open Go.RowKit
set_option maxRecDepth 20000

theorem mem_isP {ps : List Pt} (h : ∀ j (h : j < ps.length), isP ps[j] = true) : ∀ p ∈ ps, isP p = true := by
  intro p hp
  obtain ⟨j, hj, rfl⟩ := List.getElem_of_mem hp
  exact h j hj

set_option maxHeartbeats 1000000 in
theorem refCompare_any (a b : ByteArray) (w : World) (ha : a.size ≤ 140737488351232) (hb : b.size ≤ 140737488351232) :
    Calls Try.prog 26 #[.string a, .string b] w fun e w' => e = .returned (.tuple #[.int .i64 (cC a b), .int .i64 (cE a b)]) ∧ Below w.heap.size w w' := by
  obtain ⟨d5, dts⟩ := dS_small a
  obtain ⟨d5', dts'⟩ := dS_small b
  have HP : Hid (∀ j (h : j < (dS a).length), isP (dS a)[j] = true) := dS_isP a
  have HQ : Hid (∀ j (h : j < (dS b).length), isP (dS b)[j] = true) := dS_isP b
  have HC : Hid (cmpPs (dS a) (dS b) = cmpL (keyR (dS a)) (keyR (dS b))) := (parts_cmp _ _ (mem_isP (dS_isP a)) (mem_isP (dS_isP b))).1
  unfold cC cE
  cases h1 : (decS a).isSome
  · simp only [Bool.false_and, Bool.false_eq_true, if_false]
    have e1 := eS_none h1
    clear h1
    go_enter Try.func26, Try.ntmps26
    go_wp2_with fail
    refine (ref2 a _ ha).mono ?_
    rintro e w1 ⟨hb1, ao, cap, qs, rfl, hq, hr⟩
    rw [e1]
    go_wp2_with fail
    refine (ref2 b _ hb).mono ?_
    rintro e w2 ⟨hb2, bo, cap', qs', rfl, hq', hr'⟩
    have hz1 := hb1.size
    have hz2 := (below_first hb2).size
    go_wp2
    go_ret2
    exact ⟨rfl, ((hb1.trans ((below_first hb2).mono hz1)).alloc (by omega) _)⟩
  · have e1 := eS_some h1
    clear h1
    cases h2 : (decS b).isSome
    · simp only [Bool.and_false, Bool.false_eq_true, if_false]
      have e2 := eS_none h2
      clear h2
      go_enter Try.func26, Try.ntmps26
      go_wp2_with fail
      refine (ref2 a _ ha).mono ?_
      rintro e w1 ⟨hb1, ao, cap, qs, rfl, hq, hr⟩
      rw [e1]
      go_wp2_with fail
      refine (ref2 b _ hb).mono ?_
      rintro e w2 ⟨hb2, bo, cap', qs', rfl, hq', hr'⟩
      rw [e2]
      have hz1 := hb1.size
      have hz2 := (below_first hb2).size
      go_wp2
      go_ret2
      exact ⟨rfl, ((hb1.trans ((below_first hb2).mono hz1)).alloc (by omega) _)⟩
    · simp only [Bool.and_self, if_true]
      have e2 := eS_some h2
      clear h2
      go_enter Try.func26, Try.ntmps26
      go_wp2_with fail
      refine (ref2 a _ ha).mono ?_
      rintro e w1 ⟨hb1, ao, cap, qs, rfl, hq, hr⟩
      have hp1 := hr.reads2 hq rfl dts
      clear hq hr dts
      rw [e1]
      go_wp2_with fail
      refine (ref2 b _ hb).mono ?_
      rintro e w2 ⟨hb2, bo, cap', qs', rfl, hq', hr'⟩
      have hp2 := hr'.reads2 hq' rfl dts'
      clear hq' hr' dts'
      rw [e2]
      have r0 : w2.cell? ⟨w1.heap.size, 0, none⟩ = some (.slice ao (dS a).length cap) := (hb2.cell (by simp)).trans (by simp [go_sem])
      have z2 := hb2.size
      simp only [World.size_alloc] at z2
      have zz : w1.heap.size < w2.heap.size := by omega
      have hz1 := hb1.size
      have q1 := (hp1.below (below_first hb2)).below (below_alloc w2 (.cells #[.slice bo (dS b).length cap'] 24))
      have q2 := hp2.below (below_alloc w2 (.cells #[.slice bo (dS b).length cap'] 24))
      have hw2 : Below w.heap.size w w2 := hb1.trans ((below_first hb2).mono hz1)
      clear hp1 hp2
      go_wp2_with fail
      refine (key_any (dS a) ao cap _ d5 HP.out q1).mono ?_
      rintro e w3 ⟨⟨K, rfl, hK, sK⟩, hb3⟩
      have r1 : w3.cell? ⟨w2.heap.size, 0, none⟩ = some (.slice bo (dS b).length cap') := (hb3.cell (by simp)).trans (by simp [go_sem])
      have z3 := hb3.size
      simp only [World.size_alloc] at z3
      have q3 := q2.below hb3
      have hw3 : Below w.heap.size w w3 := hw2.trans ((below_first hb3).mono (by omega))
      clear q1 q2 r0
      go_wp2_with fail
      refine (key_any (dS b) bo cap' _ d5' HQ.out q3).mono ?_
      rintro e w4 ⟨⟨L, rfl, hL, sL⟩, hb4⟩
      have hw4 : Below w.heap.size w w4 := hw3.trans (hb4.mono (by omega))
      have k1 : K.toList = bl K := ByteArray.toList_eq ..
      have k2 : L.toList = bl L := ByteArray.toList_eq ..
      rw [← hK, ← hL] at HC
      cases c1 : Op.bytesLess K.toList L.toList
      · cases c2 : (K.toList == L.toList)
        · have HR : Hid (cmpPs (dS a) (dS b) = 1) := by
            show _ = _
            rw [HC.out]
            unfold cmpL
            rw [← k1, ← k2, c1]
            have hne : ¬ K.toList = L.toList := fun hh => by rw [hh] at c2; simp at c2
            simp [hne]
          clear HC hK hL q3 k1 k2
          go_wp2
          go_ret2
          exact ⟨by rw [HR.out]; rfl, hw4⟩
        · have HR : Hid (cmpPs (dS a) (dS b) = 0) := by
            show _ = _
            rw [HC.out]
            unfold cmpL
            rw [← k1, ← k2, c1]
            have he : K.toList = L.toList := by simpa using c2
            simp [he]
          clear HC hK hL q3 k1 k2
          go_wp2
          go_ret2
          exact ⟨by rw [HR.out]; rfl, hw4⟩
      · have HR : Hid (cmpPs (dS a) (dS b) = -1) := by
          show _ = _
          rw [HC.out]
          unfold cmpL
          rw [← k1, ← k2, c1]
          rfl
        clear HC hK hL q3 k1 k2
        go_wp2
        go_ret2
        exact ⟨by rw [HR.out]; rfl, hw4⟩

set_option maxHeartbeats 800000 in
theorem compares_any (a b : ByteArray) (w : World) (ha : a.size ≤ 140737488351232) (hb : b.size ≤ 140737488351232) :
    Calls Try.prog 6 #[.string a, .string b] w fun e w' => e = .returned (.bool true) ∧ Below w.heap.size w w' := by
  have n1 : (cC a b == cC a b) = true := by simp
  have n2 : (cE a b == cE a b) = true := by simp
  have n3 : (cC b a == cC b a) = true := by simp
  have n4 : (cE b a == cE b a) = true := by simp
  have n5 : (cC a a == cC a a) = true := by simp
  have n6 : (cE a a == cE a a) = true := by simp
  go_enter Try.func6, Try.ntmps6
  go_wp2_with fail
  refine (compare_any a b _ ha hb).mono ?_
  rintro e w1 ⟨rfl, h1⟩
  go_wp2_with fail
  refine (refCompare_any a b _ ha hb).mono ?_
  rintro e w2 ⟨rfl, h2⟩
  go_wp2_with fail
  refine (compare_any b a _ hb ha).mono ?_
  rintro e w3 ⟨rfl, h3⟩
  go_wp2_with fail
  refine (refCompare_any b a _ hb ha).mono ?_
  rintro e w4 ⟨rfl, h4⟩
  go_wp2_with fail
  refine (compare_any a a _ ha ha).mono ?_
  rintro e w5 ⟨rfl, h5⟩
  go_wp2_with fail
  refine (refCompare_any a a _ ha ha).mono ?_
  rintro e w6 ⟨rfl, h6⟩
  have s1 := h1.size
  have s2 := h2.size
  have s3 := h3.size
  have s4 := h4.size
  have s5 := h5.size
  go_wp2
  go_ret
  exact ⟨by simp, h1.trans ((h2.trans ((h3.trans ((h4.trans ((h5.trans (h6.mono s5)).mono s4)).mono s3)).mono s2)).mono s1)⟩
end Go.Proofs.Ytgkiknfpcbcnnaa
