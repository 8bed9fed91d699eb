import Derived.Test.YtkdcjcemeipkjaaMat8
import Derived.Test.YtkdcjcemeipkjaaDecs
namespace Go.Proofs.Ytkdcjcemeipkjaa
open Go.RowKit
set_option maxRecDepth 20000

theorem dS_isP (s : ByteArray) : ∀ j (h : j < (dS s).length), isP (dS s)[j] = true := by
  unfold dS
  cases h : decS s with
  | none => intro j hj; simp at hj
  | some ps =>
    have hR := (decS_sound s ps h).1
    unfold isR at hR
    simp only [Bool.and_eq_true] at hR
    exact allP_get ps 0 hR.1

/-- What Match answers. -/
def mB (s : ByteArray) (h : Hd) : Bool := (decS s).isSome && hdOK h && (dS s).all (ptM · h)
def mE (s : ByteArray) (h : Hd) : Int := if (decS s).isSome then (if hdOK h then 0 else 3) else 1

theorem mB_some {s : ByteArray} {h : Hd} (hd : (decS s).isSome = true) (hh : hdOK h = true) : mB s h = (dS s).all (ptM · h) ∧ mE s h = 0 ∧ eS s = 0 := by
  unfold mB mE eS; simp [hd, hh]
theorem mB_bad {s : ByteArray} {h : Hd} (hd : (decS s).isSome = true) (hh : hdOK h = false) : mB s h = false ∧ mE s h = 3 ∧ eS s = 0 := by
  unfold mB mE eS; simp [hd, hh]
theorem mB_none {s : ByteArray} {h : Hd} (hd : (decS s).isSome = false) : mB s h = false ∧ mE s h = 1 ∧ eS s = 1 := by
  unfold mB mE eS; simp [hd]

theorem below_two {w w1 w2 : World} {A R : Obj} (hb1 : Below (w.alloc A).heap.size (w.alloc A) w1) (hb2 : Below (w1.alloc R).heap.size (w1.alloc R) w2) : Below (w.alloc A).heap.size (w.alloc A) w2 ∧ Below w1.heap.size w1 w2 :=
  have h := (below_alloc w1 R).trans (hb2.mono (by simp))
  ⟨hb1.trans (h.mono hb1.size), h⟩

set_option maxHeartbeats 1000000 in
theorem match_any (s : ByteArray) (h : Hd) (w : World) (hs : s.size ≤ 140737488351232) :
    Calls Try.prog 19 #[.string s, .agg #[.int .i64 h.ds, .int .i64 h.sr, .int .i64 h.pr, .int .i64 h.po, .int .i64 h.fl, .bool h.la]] w fun e w' => e = .returned (.tuple #[.bool (mB s h), .int .i64 (mE s h)]) ∧ Below w.heap.size w w' := by
  obtain ⟨d5, dts⟩ := dS_small s
  have hP : Hid (∀ j (h : j < (dS s).length), isP (dS s)[j] = true) := dS_isP s
  cases hd : (decS s).isSome
  · obtain ⟨e1, e2, e3⟩ := mB_none (h := h) hd
    rw [e1, e2]
    clear e1 e2 hd
    go_enter Try.func19, Try.ntmps19
    go_wp2_with fail
    refine (flow2 s _ hs).mono ?_
    rintro e w1 ⟨hb1, ao, cap, qs, rfl, hq, hr⟩
    rw [e3]
    go_wp2
    go_ret2
    exact ⟨rfl, (below_first hb1).alloc (below_first hb1).size _⟩
  · cases hh : hdOK h
    · obtain ⟨e1, e2, e3⟩ := mB_bad hd hh
      rw [e1, e2]
      clear e1 e2 hd
      go_enter Try.func19, Try.ntmps19
      go_wp2_with fail
      refine (flow2 s _ hs).mono ?_
      rintro e w1 ⟨hb1, ao, cap, qs, rfl, hq, hr⟩
      rw [e3]
      obtain ⟨a0, a1, a2, a3, a4, a5, az⟩ := cells_six hb1
      go_wp2_with (go_at_call 33; refine (isHeader_any h _).mono ?_; rintro e w2 ⟨rfl, hb2⟩; rw [hh])
      go_ret2
      exact ⟨rfl, below_first (below_two hb1 hb2).1⟩
    · obtain ⟨e1, e2, e3⟩ := mB_some hd hh
      have HM : Hid (mB s h = (dS s).all (ptM · h)) := e1
      rw [e2]
      clear e1 e2 hd
      go_enter Try.func19, Try.ntmps19
      go_wp2_with fail
      refine (flow2 s _ hs).mono ?_
      rintro e w1 ⟨hb1, ao, cap, qs, rfl, hq, hr⟩
      have hp1 := hr.reads2 hq rfl dts
      clear hq hr dts
      rw [e3]
      obtain ⟨a0, a1, a2, a3, a4, a5, az⟩ := cells_six hb1
      go_wp2_with fail
      refine (isHeader_any h _).mono ?_
      rintro e w2 ⟨rfl, hb2⟩
      rw [hh]
      obtain ⟨hw2, hw1⟩ := below_two hb1 hb2
      have r0 : w2.cell? ⟨w1.heap.size, 0, none⟩ = some (.slice ao (dS s).length cap) := (hb2.cell (by simp)).trans (by simp [go_sem])
      have z2 := hb2.size
      simp only [World.size_alloc] at z2
      clear a0 a1 a2 a3 a4 a5 az
      obtain ⟨a0, a1, a2, a3, a4, a5, az⟩ := cells_six hw2
      have hp2 := hp1.below hw1
      clear hp1 hb1 hb2 hw1
      go_wp2_with fail
      go_loopw [24] (fun x wr => ∃ j : Nat, x = .int .i64 j ∧ j ≤ (dS s).length ∧ Below w2.heap.size w2 wr ∧ Hid (mB s h = ((dS s).drop j).all (ptM · h))) (fun x _ => (dS s).length - (intOf x).toNat)
      case atStart => exact ⟨0, rfl, Nat.zero_le _, Below.refl _ _, HM⟩
      case round =>
        obtain ⟨j, rfl, hj, hbel, H⟩ := hrel
        have hw3 : Below (w.alloc (.cells #[.int .i64 h.ds, .int .i64 h.sr, .int .i64 h.pr, .int .i64 h.po, .int .i64 h.fl, .bool h.la] 44)).heap.size (w.alloc (.cells #[.int .i64 h.ds, .int .i64 h.sr, .int .i64 h.pr, .int .i64 h.po, .int .i64 h.fl, .bool h.la] 44)) wr := hw2.trans (hbel.mono hw2.size)
        clear a0 a1 a2 a3 a4 a5 az
        obtain ⟨a0, a1, a2, a3, a4, a5, az⟩ := cells_six hw3
        by_cases hlt : j < (dS s).length
        · obtain ⟨b, off, tao, tcap, rfl, c0, c1, c2, c3, hl, ht⟩ := hp2.below hbel j hlt
          have hpj := hP.out j hlt
          have hd : (dS s).drop j = (dS s)[j] :: (dS s).drop (j + 1) := List.drop_eq_getElem_cons hlt
          rw [hd] at H
          clear hd hp2
          generalize (dS s)[j] = p at *
          have hlb : b < wr.heap.size := World.block_lt_of_cell? wr _ c0
          have ht2 := ht.below (below_alloc wr (.cells #[.int .i64 p.ty, .int .i64 p.bt, .int .i64 p.ln, .slice tao p.ts.length tcap] 35))
          have hz := hbel.size
          cases hm : ptM p h
          · have HN : Hid (mB s h = false) := by show _ = _; rw [H.out, List.all_cons, hm]; rfl
            clear H ht
            go_wp2_with (go_at_call 34; refine (partMatches_any p h _ _ _ hpj hh ht2).mono ?_; rintro e w3 ⟨rfl, hb3⟩; rw [hm])
            go_ret2
            exact ⟨by rw [HN.out]; rfl, below_first (hw3.trans (((below_alloc _ _).trans (hb3.mono (by simp))).mono hw3.size))⟩
          · have HN : Hid (mB s h = ((dS s).drop (j + 1)).all (ptM · h)) := by show _ = _; rw [H.out, List.all_cons, hm]; rfl
            clear H ht
            go_wp2_with (go_at_call 34; refine (partMatches_any p h _ _ _ hpj hh ht2).mono ?_; rintro e w3 ⟨rfl, hb3⟩; rw [hm])
            go_roundw
            case rel => exact ⟨j + 1, by go_num, by omega, hbel.trans (((below_alloc _ _).trans (hb3.mono (by simp))).mono hz), HN⟩
            case measure => simp [intOf]; omega
        · have HN : Hid (mB s h = true) := by show _ = _; rw [H.out, List.drop_of_length_le (by omega)]; rfl
          clear H hp2
          go_wp2
          go_ret2
          exact ⟨by rw [HN.out]; rfl, below_first hw3⟩
end Go.Proofs.Ytkdcjcemeipkjaa
