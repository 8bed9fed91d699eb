import Derived.Test.YtkdcjcemeipkjaaCmp5
import Derived.Test.YtkdcjcemeipkjaaMat9
namespace Go.Proofs.Ytkdcjcemeipkjaa
open Go.RowKit
set_option maxRecDepth 20000

/-- What Compare answers. -/
def cC (a b : ByteArray) : Int := if (decS a).isSome && (decS b).isSome then cmpPs (dS a) (dS b) else 0
def cE (a b : ByteArray) : Int := if (decS a).isSome && (decS b).isSome then 0 else 1

theorem eS_none {s : ByteArray} (h : (decS s).isSome = false) : eS s = 1 := by unfold eS; simp [h]
theorem eS_some {s : ByteArray} (h : (decS s).isSome = true) : eS s = 0 := by unfold eS; simp [h]

set_option maxHeartbeats 1000000 in
theorem compare_any (a b : ByteArray) (w : World) (ha : a.size ≤ 140737488351232) (hb : b.size ≤ 140737488351232) :
    Calls Try.prog 21 #[.string a, .string b] w fun e w' => e = .returned (.tuple #[.int .i64 (cC a b), .int .i64 (cE a b)]) ∧ Below w.heap.size w w' := by
  obtain ⟨d5, dts⟩ := dS_small a
  obtain ⟨d5', dts'⟩ := dS_small b
  have HP : Hid (∀ j (h : j < (dS a).length), isP (dS a)[j] = true) := dS_isP a
  have HQ : Hid (∀ j (h : j < (dS b).length), isP (dS b)[j] = true) := dS_isP b
  unfold cC cE
  cases h1 : (decS a).isSome
  · simp only [Bool.false_and, Bool.false_eq_true, if_false]
    have e1 := eS_none h1
    clear h1
    go_enter Try.func21, Try.ntmps21
    go_wp2_with fail
    refine (flow2 a _ ha).mono ?_
    rintro e w1 ⟨hb1, ao, cap, qs, rfl, hq, hr⟩
    rw [e1]
    go_wp2
    go_ret2
    exact ⟨rfl, hb1.alloc hb1.size _⟩
  · have e1 := eS_some h1
    clear h1
    cases h2 : (decS b).isSome
    · simp only [Bool.and_false, Bool.false_eq_true, if_false]
      have e2 := eS_none h2
      clear h2
      go_enter Try.func21, Try.ntmps21
      go_wp2_with fail
      refine (flow2 a _ ha).mono ?_
      rintro e w1 ⟨hb1, ao, cap, qs, rfl, hq, hr⟩
      rw [e1]
      go_wp2_with fail
      refine (flow2 b _ hb).mono ?_
      rintro e w2 ⟨hb2, bo, cap', qs', rfl, hq', hr'⟩
      rw [e2]
      have hz1 := hb1.size
      have hz2 := (below_first hb2).size
      go_wp2
      go_ret2
      exact ⟨rfl, ((hb1.trans ((below_first hb2).mono hz1)).alloc (by omega) _)⟩
    · simp only [Bool.and_self, if_true]
      have e2 := eS_some h2
      clear h2
      go_enter Try.func21, Try.ntmps21
      go_wp2_with fail
      refine (flow2 a _ ha).mono ?_
      rintro e w1 ⟨hb1, ao, cap, qs, rfl, hq, hr⟩
      have hp1 := hr.reads2 hq rfl dts
      clear hq hr dts
      rw [e1]
      go_wp2_with fail
      refine (flow2 b _ hb).mono ?_
      rintro e w2 ⟨hb2, bo, cap', qs', rfl, hq', hr'⟩
      have hp2 := hr'.reads2 hq' rfl dts'
      clear hq' hr' dts'
      rw [e2]
      have r0 : w2.cell? ⟨w1.heap.size, 0, none⟩ = some (.slice ao (dS a).length cap) := (hb2.cell (by simp)).trans (by simp [go_sem])
      have z2 := hb2.size
      simp only [World.size_alloc] at z2
      have zz : w1.heap.size < w2.heap.size := by omega
      have hz1 := hb1.size
      have q1 := (hp1.below (below_first hb2)).below (below_alloc w2 (.cells #[.slice bo (dS b).length cap'] 24))
      have q2 := hp2.below (below_alloc w2 (.cells #[.slice bo (dS b).length cap'] 24))
      go_wp2_with (go_at_call 37; refine (compareParts_any (dS a) (dS b) _ _ _ _ _ d5 HP.out HQ.out q1 q2).mono ?_; rintro e w3 ⟨rfl, hb3⟩)
      go_ret2
      exact ⟨rfl, hb1.trans (((below_first hb2).trans ((below_first hb3).mono (by omega))).mono hz1)⟩
end Go.Proofs.Ytkdcjcemeipkjaa
