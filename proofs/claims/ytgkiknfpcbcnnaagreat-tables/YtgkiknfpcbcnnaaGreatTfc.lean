import Derived.Test.YtgkiknfpcbcnnaaGreatTfa
import Derived.Test.YtgkiknfpcbcnnaaGreatTfb
import Derived.Deep.MidRow
import Derived.Test.YtgkiknfpcbcnnaaGreatSbd
import Derived.Lib.SmallJoins
import Derived.SizedLaws
import Derived.Deep.Slices
import Derived.Deep.Strs
import Derived.Laws.IdiomArrays
import Derived.OpenShut
namespace Go.Proofs.YtgkiknfpcbcnnaaGreat
open Go.RowKit
set_option maxRecDepth 20000
theorem DPost.after {X : XBase} {w W w' : World} {wl : Nat} {lab l2 : Nat → Nat} {ps : List Pr} {vals es ws : List Value} {d d' : Nat} (hW : Below w.heap.size w W) (hd : d ≤ d') (h : DPost X W wl lab l2 ps vals es ws d w') : DPost X w wl lab l2 ps vals es ws d' w' := by
  obtain ⟨lab', l2', ps', vals', es', ws', q1, q2, q3, q4, q5, q6, q7, q8⟩ := h
  exact ⟨lab', l2', ps', vals', es', ws', q1, by omega, q3, q4, q5, q6, fun b hb => q7 b (by have := hW.size; omega), (Off.of hW).trans q8 (fun b hb => .inl hb)⟩
set_option maxHeartbeats 1600000 in
theorem ont_status (X : XGate) {w : World} {wl : Nat} {lab l2 : Nat → Nat} {ps : List Pr} {vals es ws : List Value} (h : LD X.toXBase w wl lab l2 ps vals es ws) (i : Nat) (hi : i < ps.length) (hk : (vals.length + 1) * 24 ≤ 140737488355328) (o : OpS) (hkd : o.kd = 7) :
    Calls Tryz.prog 14 #[ptrV wl, ptrV ps[i].pb, opV o] w fun e w' => e = .returned (.bool true) ∧ DPost X.toXBase w wl lab l2 ps vals es ws 0 w' := by
  obtain ⟨kd, gt, pe, nn, tx, bt, ln, hd, cf⟩ := o
  simp only [] at hkd
  subst hkd
  obtain ⟨cp, bu, n0, n1, n2, n3⟩ := cf
  obtain ⟨W0, hW0⟩ : ∃ W0, W0 = w.alloc (.cells #[.int .i64 7, .int .i64 gt, .int .i64 pe, .int .i64 nn, .string tx, .int .i64 bt, .int .i64 ln, .int .i64 hd.ds, .int .i64 hd.sr, .int .i64 hd.pr, .int .i64 hd.po, .int .i64 hd.fl, .bool hd.la, .int .i64 cp, .int .i64 bu, .int .i64 n0, .int .i64 n1, .int .i64 n2, .int .i64 n3] 43) := ⟨_, rfl⟩
  have HW0 : Hid (W0 = w.alloc (.cells #[.int .i64 7, .int .i64 gt, .int .i64 pe, .int .i64 nn, .string tx, .int .i64 bt, .int .i64 ln, .int .i64 hd.ds, .int .i64 hd.sr, .int .i64 hd.pr, .int .i64 hd.po, .int .i64 hd.fl, .bool hd.la, .int .i64 cp, .int .i64 bu, .int .i64 n0, .int .i64 n1, .int .i64 n2, .int .i64 n3] 43)) := hW0
  have hb0 : Below w.heap.size w W0 := by rw [hW0]; exact below_alloc _ _
  have hO0 : W0.heap[w.heap.size]? = some (.cells #[.int .i64 7, .int .i64 gt, .int .i64 pe, .int .i64 nn, .string tx, .int .i64 bt, .int .i64 ln, .int .i64 hd.ds, .int .i64 hd.sr, .int .i64 hd.pr, .int .i64 hd.po, .int .i64 hd.fl, .bool hd.la, .int .i64 cp, .int .i64 bu, .int .i64 n0, .int .i64 n1, .int .i64 n2, .int .i64 n3] 43 (0, 0)) := by rw [hW0]; exact heap_alloc_new w _
  clear hW0
  have hst := lawStatusT_any X.toXBase (h.same hb0) i hi hk
  unfold ptrV at hst
  unfold ptrV
  generalize ps[i].pb = pb at *
  have HST : Hid (Calls Tryz.prog 18 #[.pointer (some ⟨wl, 0, none⟩), .pointer (some ⟨pb, 0, none⟩)] W0 fun e w' => e = .returned (.bool true) ∧ DPost X.toXBase W0 wl lab l2 ps vals es ws 0 w') := hst
  clear hst h hi hk hO0
  simp only [opV, opL]
  go_enter Tryz.func14, Tryz.ntmps14
  go_wp2_with (go_at_call 18; rw [← HW0.out]; refine HST.out.mono ?_; rintro e w1 ⟨rfl, q⟩)
  go_ret
  exact ⟨rfl, q.after hb0 (Nat.le_refl _)⟩
set_option maxHeartbeats 1600000 in
theorem ont_table (X : XGate) {w : World} {wl : Nat} {lab l2 : Nat → Nat} {ps : List Pr} {vals es ws : List Value} (h : LD X.toXBase w wl lab l2 ps vals es ws) (i : Nat) (hi : i < ps.length) (hk : (es.length + 1) * 24 ≤ 140737488355328) (o : OpS) (hkd : o.kd = 8) :
    Calls Tryz.prog 14 #[ptrV wl, ptrV ps[i].pb, opV o] w fun e w' => e = .returned (.bool true) ∧ DPost X.toXBase w wl lab l2 ps vals es ws 0 w' := by
  obtain ⟨kd, gt, pe, nn, tx, bt, ln, hd, cf⟩ := o
  simp only [] at hkd
  subst hkd
  obtain ⟨cp, bu, n0, n1, n2, n3⟩ := cf
  obtain ⟨W0, hW0⟩ : ∃ W0, W0 = w.alloc (.cells #[.int .i64 8, .int .i64 gt, .int .i64 pe, .int .i64 nn, .string tx, .int .i64 bt, .int .i64 ln, .int .i64 hd.ds, .int .i64 hd.sr, .int .i64 hd.pr, .int .i64 hd.po, .int .i64 hd.fl, .bool hd.la, .int .i64 cp, .int .i64 bu, .int .i64 n0, .int .i64 n1, .int .i64 n2, .int .i64 n3] 43) := ⟨_, rfl⟩
  have HW0 : Hid (W0 = w.alloc (.cells #[.int .i64 8, .int .i64 gt, .int .i64 pe, .int .i64 nn, .string tx, .int .i64 bt, .int .i64 ln, .int .i64 hd.ds, .int .i64 hd.sr, .int .i64 hd.pr, .int .i64 hd.po, .int .i64 hd.fl, .bool hd.la, .int .i64 cp, .int .i64 bu, .int .i64 n0, .int .i64 n1, .int .i64 n2, .int .i64 n3] 43)) := hW0
  have hb0 : Below w.heap.size w W0 := by rw [hW0]; exact below_alloc _ _
  have hO0 : W0.heap[w.heap.size]? = some (.cells #[.int .i64 8, .int .i64 gt, .int .i64 pe, .int .i64 nn, .string tx, .int .i64 bt, .int .i64 ln, .int .i64 hd.ds, .int .i64 hd.sr, .int .i64 hd.pr, .int .i64 hd.po, .int .i64 hd.fl, .bool hd.la, .int .i64 cp, .int .i64 bu, .int .i64 n0, .int .i64 n1, .int .i64 n2, .int .i64 n3] 43 (0, 0)) := by rw [hW0]; exact heap_alloc_new w _
  clear hW0
  have hst := lawTabled_any X (h.same hb0) i hi hk
  unfold ptrV at hst
  unfold ptrV
  generalize ps[i].pb = pb at *
  have HST : Hid (Calls Tryz.prog 19 #[.pointer (some ⟨wl, 0, none⟩), .pointer (some ⟨pb, 0, none⟩)] W0 fun e w' => e = .returned (.bool true) ∧ DPost X.toXBase W0 wl lab l2 ps vals es ws 0 w') := hst
  clear hst h hi hk hO0
  simp only [opV, opL]
  go_enter Tryz.func14, Tryz.ntmps14
  go_wp2_with (go_at_call 19; rw [← HW0.out]; refine HST.out.mono ?_; rintro e w1 ⟨rfl, q⟩)
  go_ret
  exact ⟨rfl, q.after hb0 (Nat.le_refl _)⟩
set_option maxHeartbeats 1600000 in
theorem ont_lookup (X : XGate) {w : World} {wl : Nat} {lab l2 : Nat → Nat} {ps : List Pr} {vals es ws : List Value} (h : LD X.toXBase w wl lab l2 ps vals es ws) (i : Nat) (hi : i < ps.length) (o : OpS) (hod : Hd64 o.hd) (hkd : o.kd = 9) :
    Calls Tryz.prog 14 #[ptrV wl, ptrV ps[i].pb, opV o] w fun e w' => e = .returned (.bool true) ∧ DPost X.toXBase w wl lab l2 ps vals es ws 0 w' := by
  obtain ⟨kd, gt, pe, nn, tx, bt, ln, hd, cf⟩ := o
  simp only [] at hkd hod
  subst hkd
  obtain ⟨cp, bu, n0, n1, n2, n3⟩ := cf
  obtain ⟨W0, hW0⟩ : ∃ W0, W0 = w.alloc (.cells #[.int .i64 9, .int .i64 gt, .int .i64 pe, .int .i64 nn, .string tx, .int .i64 bt, .int .i64 ln, .int .i64 hd.ds, .int .i64 hd.sr, .int .i64 hd.pr, .int .i64 hd.po, .int .i64 hd.fl, .bool hd.la, .int .i64 cp, .int .i64 bu, .int .i64 n0, .int .i64 n1, .int .i64 n2, .int .i64 n3] 43) := ⟨_, rfl⟩
  have HW0 : Hid (W0 = w.alloc (.cells #[.int .i64 9, .int .i64 gt, .int .i64 pe, .int .i64 nn, .string tx, .int .i64 bt, .int .i64 ln, .int .i64 hd.ds, .int .i64 hd.sr, .int .i64 hd.pr, .int .i64 hd.po, .int .i64 hd.fl, .bool hd.la, .int .i64 cp, .int .i64 bu, .int .i64 n0, .int .i64 n1, .int .i64 n2, .int .i64 n3] 43)) := hW0
  have hb0 : Below w.heap.size w W0 := by rw [hW0]; exact below_alloc _ _
  have hO0 : W0.heap[w.heap.size]? = some (.cells #[.int .i64 9, .int .i64 gt, .int .i64 pe, .int .i64 nn, .string tx, .int .i64 bt, .int .i64 ln, .int .i64 hd.ds, .int .i64 hd.sr, .int .i64 hd.pr, .int .i64 hd.po, .int .i64 hd.fl, .bool hd.la, .int .i64 cp, .int .i64 bu, .int .i64 n0, .int .i64 n1, .int .i64 n2, .int .i64 n3] 43 (0, 0)) := by rw [hW0]; exact heap_alloc_new w _
  clear hW0
  have hst := lawLooked_any X (h.same hb0) i hi hd hod
  unfold ptrV hdV at hst
  unfold ptrV
  generalize ps[i].pb = pb at *
  have HST : Hid (Calls Tryz.prog 33 #[.pointer (some ⟨pb, 0, none⟩), .agg #[.int .i64 hd.ds, .int .i64 hd.sr, .int .i64 hd.pr, .int .i64 hd.po, .int .i64 hd.fl, .bool hd.la]] W0 fun e w' => e = .returned (.bool true) ∧ DPost X.toXBase W0 wl lab l2 ps vals es ws 0 w') := hst
  clear hst h hi hod
  simp only [opV, opL]
  have y7 := cell_of_row W0 w.heap.size 7 _ _ _ hO0
  have y8 := cell_of_row W0 w.heap.size 8 _ _ _ hO0
  have y9 := cell_of_row W0 w.heap.size 9 _ _ _ hO0
  have y10 := cell_of_row W0 w.heap.size 10 _ _ _ hO0
  have y11 := cell_of_row W0 w.heap.size 11 _ _ _ hO0
  have y12 := cell_of_row W0 w.heap.size 12 _ _ _ hO0
  rw [HW0.out] at y7 y8 y9 y10 y11 y12
  go_enter Tryz.func14, Tryz.ntmps14
  go_wp2_with (go_at_call 33; rw [← HW0.out]; refine HST.out.mono ?_; rintro e w1 ⟨rfl, q⟩)
  go_ret
  exact ⟨rfl, q.after hb0 (Nat.le_refl _)⟩
theorem onGateT_any (X : XGate) {w : World} {wl : Nat} {lab l2 : Nat → Nat} {ps : List Pr} {vals es ws : List Value} (h : LD X.toXBase w wl lab l2 ps vals es ws) (i : Nat) (hi : i < ps.length) (hk : (vals.length + 1) * 24 ≤ 140737488355328) (hke : (es.length + 1) * 24 ≤ 140737488355328) (hkw : (ws.length + 1) * 24 ≤ 140737488355328) (o : OpS) (ho : OpOK o) (hod : Hd64 o.hd) (hkd : 2 ≤ o.kd ∧ o.kd ≤ 9) :
    Calls Tryz.prog 14 #[ptrV wl, ptrV ps[i].pb, opV o] w fun e w' => e = .returned (.bool true) ∧ DPost X.toXBase w wl lab l2 ps vals es ws 0 w' := by
  have : o.kd = 2 ∨ o.kd = 3 ∨ o.kd = 4 ∨ o.kd = 5 ∨ o.kd = 6 ∨ o.kd = 7 ∨ o.kd = 8 ∨ o.kd = 9 := by omega
  rcases this with hk2 | hk2 | hk2 | hk2 | hk2 | hk2 | hk2 | hk2
  · exact ont_announce X h i hi hkw o ho hod hk2
  · exact ont_withdraw X h i hi hkw o ho hod hk2
  · exact ont_add X h i hi hkw o ho hod hk2
  · exact ont_remove X h i hi hkw o ho hod hk2
  · exact ont_reset X h i hi hkw o ho hod hk2
  · exact ont_status X h i hi hk o hk2
  · exact ont_table X h i hi hke o hk2
  · exact ont_lookup X h i hi o hod hk2
end Go.Proofs.YtgkiknfpcbcnnaaGreat
namespace Go.Proofs.YtgkiknfpcbcnnaaGreat
open Go.RowKit
set_option maxRecDepth 20000
theorem mul8t {k : Nat} (h : k + 1 ≤ 5864062014805) : (k + 1) * 8 ≤ 140737488355328 := Nat.le_trans (Nat.mul_le_mul_right 8 h) (by decide)
set_option maxHeartbeats 3200000 in
theorem stepT_any (X : XGate) {w : World} {wl : Nat} {lab l2 : Nat → Nat} {ps : List Pr} {vals es ws : List Value} (h : LD X.toXBase w wl lab l2 ps vals es ws) (hk : vals.length + 1 ≤ 5864062014805) (hke : es.length + 1 ≤ 5864062014805) (hkw : ws.length + 1 ≤ 5864062014805) (hk2 : ps.length + 1 ≤ 5864062014805) (o : OpS) (ho : OpOK o) (hod : Hd64 o.hd) :
    Calls Tryz.prog 8 #[ptrV wl, opV o] w fun e w' => e = .returned (.bool true) ∧ DPost X.toXBase w wl lab l2 ps vals es ws 1 w' := by
  obtain ⟨W0, hW0⟩ : ∃ W0, W0 = w.alloc (.cells (opL o).toArray 43) := ⟨_, rfl⟩
  have hb0 : Below w.heap.size w W0 := by rw [hW0]; exact below_alloc _ _
  have hO0 : W0.heap[w.heap.size]? = some (.cells (opL o).toArray 43 (0, 0)) := by rw [hW0]; exact heap_alloc_new w _
  have HW0 : Hid (W0 = w.alloc (.cells (opL o).toArray 43)) := hW0
  clear hW0
  have HL0 : Hid (LD X.toXBase W0 wl lab l2 ps vals es ws) := h.same hb0
  have HNO : Hid (∀ w', Below w.heap.size w w' → DPost X.toXBase w wl lab l2 ps vals es ws 1 w') := fun w' hb => ⟨lab, l2, ps, vals, es, ws, h.same hb, Nat.le_succ _, Nat.le_refl _, Nat.le_succ _, Nat.le_succ _, Nat.le_succ _, fun _ _ => ⟨rfl, rfl⟩, Off.of hb⟩
  have HOP : Hid (∀ (c : Cf), Calls Tryz.prog 7 #[.pointer (some ⟨wl, 0, none⟩), .agg #[.int .i64 c.cp, .int .i64 c.bu, .int .i64 c.n0, .int .i64 c.n1, .int .i64 c.n2, .int .i64 c.n3]] W0 fun e w' => e = .returned (.bool true) ∧ DPost X.toXBase w wl lab l2 ps vals es ws 1 w') := fun c => by
    have := openedT_any X.toXBase HL0.out c (mul8t hk2)
    unfold ptrV cfV at this
    exact this.mono fun e w' h' => ⟨h'.1, h'.2.after hb0 (Nat.le_refl _)⟩
  obtain ⟨ga, gc, c0, c1, hwl, hps⟩ := HL0.out.read
  have HON : Hid (∀ W, Below w.heap.size w W → ∀ (i : Nat) (hi : i < ps.length), (2 ≤ o.kd ∧ o.kd ≤ 9) → Calls Tryz.prog 14 #[.pointer (some ⟨wl, 0, none⟩), .pointer (some ⟨ps[i].pb, 0, none⟩), opV o] W fun e w' => e = .returned (.bool true) ∧ DPost X.toXBase w wl lab l2 ps vals es ws 1 w') := fun W hW i hi hkd => by
    have := onGateT_any X (h.same hW) i hi (mul24 hk) (mul24 hke) (mul24 hkw) o ho hod hkd
    unfold ptrV at this
    exact this.mono fun e w' h' => ⟨h'.1, h'.2.after hW (Nat.zero_le _)⟩
  have hpl : ps.length ≤ 140737488355328 := by omega
  obtain ⟨ogt, _, _, _, _, _⟩ := ho
  clear h hk hke hkw hk2 hod
  obtain ⟨kd, gt, pe, nn, tx, bt, ln, hd, cf⟩ := o
  obtain ⟨cp, bu, n0, n1, n2, n3⟩ := cf
  simp only [opL, opV] at *
  have o0 := cell_of_row W0 w.heap.size 0 _ _ _ hO0
  have o1 := cell_of_row W0 w.heap.size 1 _ _ _ hO0
  unfold ptrV
  by_cases k1 : kd = 1
  · subst k1
    have HOC : Hid (Calls Tryz.prog 7 #[.pointer (some ⟨wl, 0, none⟩), .agg #[.int .i64 cp, .int .i64 bu, .int .i64 n0, .int .i64 n1, .int .i64 n2, .int .i64 n3]] W0 fun e w' => e = .returned (.bool true) ∧ DPost X.toXBase w wl lab l2 ps vals es ws 1 w') := HOP.out ⟨cp, bu, n0, n1, n2, n3⟩
    clear HOP HON HNO c0 c1 hps o0 o1
    go_enter Tryz.func8, Tryz.ntmps8
    go_wp2_with (go_at_call 7; rw [← HW0.out]; refine HOC.out.mono ?_; rintro e w1 ⟨rfl, q1⟩)
    go_ret
    exact ⟨rfl, q1⟩
  · have q1 : (kd == 1) = false := by simpa using k1
    clear HOP
    by_cases k2 : kd < 2
    · have q2 : decide (kd < 2) = true := by simpa using k2
      clear HON hps k1 c0 c1 o0 o1
      go_enter Tryz.func8, Tryz.ntmps8
      go_wp2_with fail
      go_ret
      exact ⟨rfl, HNO.out _ (below_alloc _ _)⟩
    · have q2 : decide (kd < 2) = false := by simpa using k2
      by_cases k3 : 9 < kd
      · have q3 : decide (9 < kd) = true := by simpa using k3
        clear HON hps k1 k2 c0 c1 o0 o1
        go_enter Tryz.func8, Tryz.ntmps8
        go_wp2_with fail
        go_ret
        exact ⟨rfl, HNO.out _ (below_alloc _ _)⟩
      · have q3 : decide (9 < kd) = false := by simpa using k3
        have c0w := c0
        have c1w := c1
        rw [HW0.out] at c0 c1
        by_cases k4 : ps.length = 0
        · have q4 : ((ps.length : Int) == 0) = true := by simp [k4]
          rw [k4] at c0
          clear c0w c1w HON hps k1 k2 k3 o0 o1 k4 q4 hpl
          go_enter Tryz.func8, Tryz.ntmps8
          go_wp2_with fail
          go_ret
          exact ⟨rfl, HNO.out _ (below_alloc _ _)⟩
        · have q4 : ((ps.length : Int) == 0) = false := beq_eq_false_iff_ne.2 (by omega)
          have k5 : True := trivial
          obtain ⟨j, hj, hjl⟩ : ∃ j : Nat, pk gt (ps.length : Int) = (j : Int) ∧ j < ps.length := by
            have := pk_bd gt (ps.length : Int) (by omega)
            exact ⟨(pk gt (ps.length : Int)).toNat, (Int.toNat_of_nonneg this.1).symm, by omega⟩
          obtain ⟨g, rfl, hgz, cg0⟩ := hps j hjl
          have HPK : Hid (∀ w, Calls Tryz.prog 13 #[.int .i64 gt, .int .i64 (ps.length : Int)] w fun e w' => e = .returned (.int .i64 (j : Int)) ∧ w' = w) := fun w => by rw [← hj]; exact lawPick_any gt _ w ogt.1 ogt.2 (by omega) (by omega)
          obtain ⟨pb, cg, HOC⟩ : ∃ pb, W0.cell? ⟨g, j, none⟩ = some (.pointer (some ⟨pb, 0, none⟩)) ∧ Hid (∀ W, Below w.heap.size w W → Calls Tryz.prog 14 #[.pointer (some ⟨wl, 0, none⟩), .pointer (some ⟨pb, 0, none⟩), .agg #[.int .i64 kd, .int .i64 gt, .int .i64 pe, .int .i64 nn, .string tx, .int .i64 bt, .int .i64 ln, .int .i64 hd.ds, .int .i64 hd.sr, .int .i64 hd.pr, .int .i64 hd.po, .int .i64 hd.fl, .bool hd.la, .int .i64 cp, .int .i64 bu, .int .i64 n0, .int .i64 n1, .int .i64 n2, .int .i64 n3]] W fun e w' => e = .returned (.bool true) ∧ DPost X.toXBase w wl lab l2 ps vals es ws 1 w') := ⟨_, cg0, fun W hW => HON.out W hW j hjl ⟨by omega, by omega⟩⟩
          have hjI : (j : Int) < (ps.length : Int) := by omega
          have hj0 : (0 : Int) ≤ (j : Int) := by omega
          clear HON hps k1 k2 k3 k4 k5 cg0 hj
          go_enter Tryz.func8, Tryz.ntmps8
          go_wp2_with fail
          rw [← HW0.out]
          clear c0 c1
          go_quiet ((go_at_call 13; exact Calls.quiet_of_same (HPK.out _)))
          have hbq : Below w.heap.size w (W0.drewN nq) := below_drewN hb0 nq
          have hoq := ((below_drewN (Below.refl W0.heap.size W0) nq).block w.heap.size (lt_of_block hO0)).trans hO0
          clear HL0 c0w c1w cg o0 o1 HPK
          generalize W0.drewN nq = wq at *
          have HRG : Hid (wq.rangeAt w.heap.size 0 [.int .i64 kd, .int .i64 gt, .int .i64 pe, .int .i64 nn, .string tx, .int .i64 bt, .int .i64 ln, .int .i64 hd.ds, .int .i64 hd.sr, .int .i64 hd.pr, .int .i64 hd.po, .int .i64 hd.fl, .bool hd.la, .int .i64 cp, .int .i64 bu, .int .i64 n0, .int .i64 n1, .int .i64 n2, .int .i64 n3]) := fun j u hu => by rw [Nat.zero_add]; rw [cell_of_row wq w.heap.size j _ _ _ hoq]; simpa using hu
          have HIN : Hid ((Tryz.prog.info? 43).map (·.size) = some 19) := by show _ = _; kernel_rfl
          clear hoq
          go_wp2_with (first
            | (go_at_call 14; refine (HOC.out _ hbq).mono ?_; rintro e w1 ⟨rfl, r1⟩)
            | (refine wpList_load_mid rfl 43 (.tmp 3) rfl w.heap.size 0 rfl [.int .i64 kd, .int .i64 gt, .int .i64 pe, .int .i64 nn, .string tx, .int .i64 bt, .int .i64 ln, .int .i64 hd.ds, .int .i64 hd.sr, .int .i64 hd.pr, .int .i64 hd.po, .int .i64 hd.fl, .bool hd.la, .int .i64 cp, .int .i64 bu, .int .i64 n0, .int .i64 n1, .int .i64 n2, .int .i64 n3] _ HRG.out Tryz.underlying43 rfl HIN.out ?_))
          go_ret
          exact ⟨rfl, r1⟩
theorem askT_bd {a v p i : Nat} (h : v + 2 * p + 1 ≤ 5864062014805) (e : a ≤ v + 2 * i + 1) (hi : i < p) : (a + 1) * 24 ≤ 140737488355328 := mul24 (by omega)
theorem askT_bd2 {a v p i : Nat} (h : v + 2 * p + 1 ≤ 5864062014805) (e : a ≤ v + 2 * i) (hi : i ≤ p) : a ≤ 140737488355328 := by omega
theorem askT_bd3 {v p : Nat} (h : v + 2 * p + 1 ≤ 5864062014805) : p ≤ 140737488355328 := by omega
theorem offs {w w1 w2 : World} {lab l2 lab1 l21 : Nat → Nat} (h : Off (fun b => lab b ≠ 7 ∨ l2 b ≠ 0) w w1) (hl : ∀ b, b < w.heap.size → lab1 b = lab b ∧ l21 b = l2 b) (k : Off (fun b => lab1 b ≠ 7 ∨ l21 b ≠ 0) w1 w2) : Off (fun b => lab b ≠ 7 ∨ l2 b ≠ 0) w w2 :=
  h.trans k (fun b hb => by
    by_cases hw : b < w.heap.size
    · obtain ⟨e1, e2⟩ := hl b hw
      rw [e1, e2] at hb
      exact .inl hb
    · exact .inr (by omega))
set_option maxHeartbeats 3200000 in
theorem askedT_any (X : XGate) {w : World} {wl : Nat} {lab l2 : Nat → Nat} {ps : List Pr} {vals es ws : List Value} (h : LD X.toXBase w wl lab l2 ps vals es ws) (hk : vals.length + 2 * ps.length + 1 ≤ 5864062014805) (hke : es.length + 2 * ps.length + 1 ≤ 5864062014805) (hkw : ws.length + 2 * ps.length + 1 ≤ 5864062014805) :
    Calls Tryz.prog 10 #[ptrV wl] w fun e w' => e = .returned (.bool true) ∧ Off (fun b => lab b ≠ 7 ∨ l2 b ≠ 0) w w' := by
  have HH : Hid (LD X.toXBase w wl lab l2 ps vals es ws) := h
  have HK0 : Hid (vals.length + 2 * ps.length + 1 ≤ 5864062014805) := hk
  have HK1 : Hid (es.length + 2 * ps.length + 1 ≤ 5864062014805) := hke
  have HK2 : Hid (ws.length + 2 * ps.length + 1 ≤ 5864062014805) := hkw
  clear h hk hke hkw
  unfold ptrV
  go_enter Tryz.func10, Tryz.ntmps10
  go_wp2_with fail
  go_loopw [3] (fun x wr => ∃ (i : Nat) (lab' l2' : Nat → Nat) (ps' : List Pr) (vals' es' ws' : List Value), x = .int .i64 i ∧ i ≤ ps.length ∧ Hid (LD X.toXBase wr wl lab' l2' ps' vals' es' ws') ∧ Hid (ps'.length = ps.length) ∧ Hid (vals'.length ≤ vals.length + 2 * i) ∧ Hid (es'.length ≤ es.length + 2 * i) ∧ Hid (ws'.length ≤ ws.length + 2 * i) ∧ Hid (∀ b, b < w.heap.size → lab' b = lab b ∧ l2' b = l2 b) ∧ Off (fun b => lab b ≠ 7 ∨ l2 b ≠ 0) w wr) (fun x _ => ps.length - (intOf x).toNat)
  case atStart => exact ⟨0, lab, l2, ps, vals, es, ws, rfl, Nat.zero_le _, HH, rfl, Nat.le_refl _, Nat.le_refl _, Nat.le_refl _, fun _ _ => ⟨rfl, rfl⟩, Off.refl _ _⟩
  case round =>
    clear HH
    obtain ⟨i, lab1, l21, ps1, vals1, es1, ws1, rfl, hi, HC, HPL, HV, HE, HWs, HB, hoff⟩ := hrel
    obtain ⟨ga, gc, c0, c1, hwl, hps⟩ := HC.out.read
    have hpl : ps.length ≤ 140737488355328 := askT_bd3 HK0.out
    rw [HPL.out] at c0
    by_cases hlt : i < ps.length
    · have hlt1 : i < ps1.length := by rw [HPL.out]; exact hlt
      obtain ⟨g, rfl, hgz, cg0⟩ := hps i hlt1
      have hst0 := lawStatusT_any X.toXBase HC.out i hlt1 (askT_bd HK0.out (by have := HV.out; omega) hlt)
      unfold ptrV at hst0
      obtain ⟨pb, cg, HST⟩ : ∃ pb, wr.cell? ⟨g, i, none⟩ = some (.pointer (some ⟨pb, 0, none⟩)) ∧ Hid (Calls Tryz.prog 18 #[.pointer (some ⟨wl, 0, none⟩), .pointer (some ⟨pb, 0, none⟩)] wr fun e w' => e = .returned (.bool true) ∧ DPost X.toXBase wr wl lab1 l21 ps1 vals1 es1 ws1 0 w') := ⟨_, cg0, hst0⟩
      clear hps hst0 cg0
      go_wp2_with fail
      refine HST.out.mono ?_
      rintro e w1 ⟨rfl, lab2, l22, ps2, vals2, es2, ws2, d1, d2, d3, d4, d5, d6, d7, d8⟩
      have HO1 : Hid (Off (fun b => lab b ≠ 7 ∨ l2 b ≠ 0) w w1) := offs hoff HB.out d8
      have hzw := hoff.size
      have HB2 : Hid (∀ b, b < w.heap.size → lab2 b = lab b ∧ l22 b = l2 b) := fun b hb => by
        obtain ⟨e1, e2⟩ := d7 b (by omega)
        obtain ⟨e3, e4⟩ := HB.out b hb
        exact ⟨e1.trans e3, e2.trans e4⟩
      have HPL2 : Hid (ps2.length = ps.length) := by show _ = _; have := HPL.out; omega
      have HV2 : Hid (vals2.length ≤ vals.length + 2 * i + 1) := by show _ ≤ _; have := HV.out; omega
      have HE2 : Hid (es2.length ≤ es.length + 2 * i + 1) := by show _ ≤ _; have := HE.out; omega
      have HW2 : Hid (ws2.length ≤ ws.length + 2 * i + 1) := by show _ ≤ _; have := HWs.out; omega
      have hlt2 : i < ps2.length := by rw [HPL2.out]; exact hlt
      obtain ⟨ga2, gc2, e0, e1, hwl2, hps2⟩ := d1.read
      rw [HPL2.out] at e0
      obtain ⟨g2, rfl, hgz2, cg1⟩ := hps2 i hlt2
      have htt := lawTabled_any X d1 i hlt2 (askT_bd HK1.out HE2.out hlt)
      unfold ptrV at htt
      obtain ⟨pb2, cg2, HTT⟩ : ∃ pb, w1.cell? ⟨g2, i, none⟩ = some (.pointer (some ⟨pb, 0, none⟩)) ∧ Hid (Calls Tryz.prog 19 #[.pointer (some ⟨wl, 0, none⟩), .pointer (some ⟨pb, 0, none⟩)] w1 fun e w' => e = .returned (.bool true) ∧ DPost X.toXBase w1 wl lab2 l22 ps2 vals2 es2 ws2 0 w') := ⟨_, cg1, htt⟩
      clear hps2 htt cg1 d1 d2 d3 d4 d5 d6 d7 d8 HC HST c0 c1 cg HB hoff
      go_wp2_with fail
      refine HTT.out.mono ?_
      rintro e w2 ⟨rfl, lab3, l23, ps3, vals3, es3, ws3, d1, d2, d3, d4, d5, d6, d7, d8⟩
      have HO2 : Hid (Off (fun b => lab b ≠ 7 ∨ l2 b ≠ 0) w w2) := offs HO1.out HB2.out d8
      have hzw1 := HO1.out.size
      have HB3 : Hid (∀ b, b < w.heap.size → lab3 b = lab b ∧ l23 b = l2 b) := fun b hb => by
        obtain ⟨e1, e2⟩ := d7 b (by omega)
        obtain ⟨e3, e4⟩ := HB2.out b hb
        exact ⟨e1.trans e3, e2.trans e4⟩
      have HD3 : Hid (LD X.toXBase w2 wl lab3 l23 ps3 vals3 es3 ws3) := d1
      have HPL3 : Hid (ps3.length = ps.length) := by show _ = _; have := HPL2.out; omega
      have HV3 : Hid (vals3.length ≤ vals.length + 2 * (i + 1)) := by show _ ≤ _; have := HV2.out; omega
      have HE3 : Hid (es3.length ≤ es.length + 2 * (i + 1)) := by show _ ≤ _; have := HE2.out; omega
      have HW3 : Hid (ws3.length ≤ ws.length + 2 * (i + 1)) := by show _ ≤ _; have := HW2.out; omega
      clear d1 d2 d3 d4 d5 d6 d7 d8 HTT e0 e1 cg2 HO1 HB2
      go_wp2_with fail
      go_roundw
      case rel => exact ⟨i + 1, lab3, l23, ps3, vals3, es3, ws3, by go_num, by omega, HD3, HPL3, HV3, HE3, HW3, HB3, HO2.out⟩
      case measure => simp [intOf]; omega
    · clear hps
      have hwh0 := HC.out.whole (askT_bd2 HK0.out HV.out hi) (askT_bd2 HK1.out HE.out hi) (askT_bd2 HK2.out HWs.out hi)
      unfold ptrV at hwh0
      have HWH := hid_calls hwh0
      clear hwh0
      go_wp2_with fail
      refine HWH.out.mono ?_
      rintro e w1 ⟨rfl, hb1⟩
      go_wp2_with fail
      go_ret
      exact ⟨rfl, hoff.then hb1⟩
end Go.Proofs.YtgkiknfpcbcnnaaGreat
namespace Go.Proofs.YtgkiknfpcbcnnaaGreat
open Go.RowKit
set_option maxRecDepth 20000
theorem LD.start7 {X : XBase} {w' : World} {wl : Nat} (hw : w'.heap[wl]? = some (.cells #[.slice none 0 0, .bool true, .slice none 0 0, .slice none 0 0, .slice none 0 0] 31 (0, 0))) :
    LD X w' wl (fun b => if b = wl then 0 else 7) (fun _ => 0) [] [] [] [] :=
  ⟨⟨none, 0, none, 0, ⟨⟨none, 0, none, 0, hw, ⟨World.ownsRow_nil _ _ _ _, by simp [Value.ownBlock], by intro i h; simp at h⟩, ⟨World.ownsRow_nil _ _ _ _, by simp [Value.ownBlock], by intro k h; simp at h⟩⟩, by simp⟩,
    ⟨World.ownsRow_nil _ _ _ _, by simp [Value.ownBlock], by intro k h; simp at h⟩, ⟨World.ownsRow_nil _ _ _ _, by simp [Value.ownBlock], by intro k h; simp at h⟩⟩, by intro i h; simp at h⟩
set_option maxHeartbeats 3200000 in
theorem upToT_any (X : XGate) (l : List OpS) (ao : Option Addr) (cap : Nat) (w : World) (hin : OpsIn w ao l) (hok : ∀ o ∈ l, OpOK o ∧ Hd64 o.hd) (hlen : l.length ≤ 1000000000000) :
    Calls Tryz.prog 5 #[.slice ao l.length cap, .bool true] w fun e w' => e = .returned (.int .i64 (-1)) ∧ Below w.heap.size w w' := by
  have HI : Hid (OpsIn w ao l) := hin
  have HO : Hid (∀ o ∈ l, OpOK o ∧ Hd64 o.hd) := hok
  have HIN : Hid ((Tryz.prog.info? 43).map (·.size) = some 19) := infoOp
  clear hin hok
  have HST : Hid (∀ {w : World} {lab l2 : Nat → Nat} {ps : List Pr} {vals es ws : List Value} {wl : Nat} (o : OpS), LD X.toXBase w wl lab l2 ps vals es ws → vals.length + 1 ≤ 5864062014805 → es.length + 1 ≤ 5864062014805 → ws.length + 1 ≤ 5864062014805 → ps.length + 1 ≤ 5864062014805 → OpOK o → Hd64 o.hd → Calls Tryz.prog 8 #[.pointer (some ⟨wl, 0, none⟩), .agg (opL o).toArray] w fun e w' => e = .returned (.bool true) ∧ DPost X.toXBase w wl lab l2 ps vals es ws 1 w') := by
    intro w lab l2 ps vals es ws wl o h1 h2 h2e h2w h3 h4 h5
    have := stepT_any X h1 h2 h2e h2w h3 o h4 h5
    unfold ptrV opV at this
    exact this
  have HWH : Hid (∀ {w : World} {lab l2 : Nat → Nat} {ps : List Pr} {vals es ws : List Value} {wl : Nat}, LD X.toXBase w wl lab l2 ps vals es ws → vals.length ≤ 140737488355328 → es.length ≤ 140737488355328 → ws.length ≤ 140737488355328 → Calls Tryz.prog 9 #[.pointer (some ⟨wl, 0, none⟩)] w fun e w' => e = .returned (.bool true) ∧ Below w.heap.size w w') := by
    intro w lab l2 ps vals es ws wl h1 h2 h3 h4
    have := h1.whole h2 h3 h4
    unfold ptrV at this
    exact this
  have HOP : Hid (∀ {w : World} {wl : Nat} {lab l2 : Nat → Nat} (d : Cf), LD X.toXBase w wl lab l2 [] [] [] [] → Calls Tryz.prog 7 #[.pointer (some ⟨wl, 0, none⟩), .agg #[.int .i64 d.cp, .int .i64 d.bu, .int .i64 d.n0, .int .i64 d.n1, .int .i64 d.n2, .int .i64 d.n3]] w fun e w' => e = .returned (.bool true) ∧ DPost X.toXBase w wl lab l2 [] [] [] [] 1 w') := by
    intro w wl lab l2 d hl
    have := openedT_any X.toXBase hl d (by decide)
    unfold ptrV cfV at this
    exact this
  have HAS : Hid (∀ {w : World} {wl : Nat} {lab l2 : Nat → Nat} {ps : List Pr} {vals es ws : List Value}, LD X.toXBase w wl lab l2 ps vals es ws → vals.length + 2 * ps.length + 1 ≤ 5864062014805 → es.length + 2 * ps.length + 1 ≤ 5864062014805 → ws.length + 2 * ps.length + 1 ≤ 5864062014805 → Calls Tryz.prog 10 #[.pointer (some ⟨wl, 0, none⟩)] w fun e w' => e = .returned (.bool true) ∧ Off (fun b => lab b ≠ 7 ∨ l2 b ≠ 0) w w') := by
    intro w wl lab l2 ps vals es ws hl hp h2 h3
    have := askedT_any X hl hp h2 h3
    unfold ptrV at this
    exact this
  obtain ⟨wA, hwA⟩ : ∃ wA, wA = w.alloc (.cells #[.slice none 0 0, .bool true, .slice none 0 0, .slice none 0 0, .slice none 0 0] 31) := ⟨_, rfl⟩
  have HWA : Hid (wA = w.alloc (.cells #[.slice none 0 0, .bool true, .slice none 0 0, .slice none 0 0, .slice none 0 0] 31)) := hwA
  have hbA : Below w.heap.size w wA := by rw [hwA]; exact below_alloc _ _
  have hlA : wA.heap[w.heap.size]? = some (.cells #[.slice none 0 0, .bool true, .slice none 0 0, .slice none 0 0, .slice none 0 0] 31 (0, 0)) := by rw [hwA]; exact heap_alloc_new w _
  clear hwA
  go_enter Tryz.func5, Tryz.ntmps5
  go_wp2_with fail
  rw [← HWA.out]
  refine (some_any wA).mono ?_
  rintro e w1 ⟨rfl, hb1⟩
  unfold cfV
  obtain ⟨wB, hwB⟩ : ∃ wB, wB = w1.alloc (.cells #[.int .i64 3, .int .i64 2, .int .i64 1, .int .i64 1, .int .i64 2, .int .i64 3] 34) := ⟨_, rfl⟩
  have HWB : Hid (wB = w1.alloc (.cells #[.int .i64 3, .int .i64 2, .int .i64 1, .int .i64 1, .int .i64 2, .int .i64 3] 34)) := hwB
  have hbB : Below w1.heap.size w1 wB := by rw [hwB]; exact below_alloc _ _
  clear hwB
  have hzA := hbA.size
  have hzl := lt_of_block hlA
  have hz1 := hb1.size
  have hzB := hbB.size
  have hAB : Below wA.heap.size wA wB := hb1.trans (hbB.mono hz1)
  have HLB : Hid (LD X.toXBase wB w.heap.size (fun b => if b = w.heap.size then 0 else 7) (fun _ => 0) [] [] [] []) := LD.start7 ((hAB.block _ hzl).trans hlA)
  have hbwB : Below w.heap.size w wB := hbA.trans (hAB.mono hzA)
  clear hlA hb1 hbB hAB hbA
  go_wp2_with fail
  rw [← HWB.out]
  refine (HOP.out ⟨3, 2, 1, 1, 2, 3⟩ HLB.out).mono ?_
  rintro e w2 ⟨rfl, lab2, l22, ps2, vals2, es2, ws2, hl2, hp2, _, hv2, he2, hw2, hlab2, hoff2⟩
  have HL2 : Hid (LD X.toXBase w2 w.heap.size lab2 l22 ps2 vals2 es2 ws2) := hl2
  have hz2 := hoff2.size
  have hB2 : Below w.heap.size w w2 := hbwB.trans (hoff2.free hbwB.size (fun b hb => by
    have : ¬ b = w.heap.size := by omega
    simp [this]))
  have HLA2 : Hid (∀ b, b < w.heap.size → lab2 b = 7 ∧ l22 b = 0) := fun b hb => by
    obtain ⟨e1, e2⟩ := hlab2 b (by omega)
    rw [e1, e2]
    exact ⟨if_neg (by omega), rfl⟩
  have HP2 : Hid (ps2.length ≤ 0 + 1 ∧ vals2.length ≤ 0 + 1 ∧ es2.length ≤ 0 + 1 ∧ ws2.length ≤ 0 + 1) := ⟨hp2, hv2, he2, hw2⟩
  clear hl2 hlab2 hoff2 hp2 hv2 he2 hw2 HLB hbwB HOP
  go_wp2_with fail
  go_loopw [8] (fun x wr => ∃ (i : Nat) (lab' l2' : Nat → Nat) (ps' : List Pr) (vals' es' ws' : List Value), x = .int .i64 i ∧ i ≤ l.length ∧ Hid (LD X.toXBase wr w.heap.size lab' l2' ps' vals' es' ws') ∧ Hid (ps'.length ≤ i + 1 ∧ vals'.length ≤ i + 1 ∧ es'.length ≤ i + 1 ∧ ws'.length ≤ i + 1) ∧ Hid (∀ b, b < w.heap.size → lab' b = 7 ∧ l2' b = 0) ∧ Below w.heap.size w wr) (fun x _ => l.length - (intOf x).toNat)
  case atStart => exact ⟨0, lab2, l22, ps2, vals2, es2, ws2, rfl, Nat.zero_le _, HL2, HP2, HLA2, hB2⟩
  case round =>
    clear HL2 HP2 HLA2 hB2
    obtain ⟨i, lab1, l21, ps1, vals1, es1, ws1, rfl, hil, HL, HPs, HLb, hbr⟩ := hrel
    by_cases hlt : i < l.length
    · obtain ⟨b, off, rfl, hbz, hrg⟩ := HI.out i hlt
      have HRG : Hid (wr.rangeAt b (off + i * 19) (opL l[i])) := rangeAt_below hrg hbz hbr
      have HSC : Hid (Calls Tryz.prog 8 #[.pointer (some ⟨w.heap.size, 0, none⟩), .agg (opL l[i]).toArray] wr fun e w' => e = .returned (.bool true) ∧ DPost X.toXBase wr w.heap.size lab1 l21 ps1 vals1 es1 ws1 1 w') := HST.out l[i] HL.out (by have := HPs.out; omega) (by have := HPs.out; omega) (by have := HPs.out; omega) (by have := HPs.out; omega) (HO.out _ (List.getElem_mem hlt)).1 (HO.out _ (List.getElem_mem hlt)).2
      clear hrg
      generalize l[i] = o at *
      go_wp2_with (first
        | (go_at_call 8; refine HSC.out.mono ?_; rintro e w3 ⟨rfl, q⟩)
        | (go_at_call 9; obtain ⟨lab3, l23, ps3, vals3, es3, ws3, q1, q2, _, q3, q4, q5, q6, q7⟩ := q; refine (HWH.out q1 (by have := HPs.out; omega) (by have := HPs.out; omega) (by have := HPs.out; omega)).mono ?_; rintro e w4 ⟨rfl, hb4⟩)
        | (refine wpList_load_mid rfl 43 (.tmp 27) rfl b (off + i * 19) rfl (opL o) _ HRG.out Tryz.underlying43 rfl HIN.out ?_))
      go_roundw
      case rel =>
        have hzr := hbr.size
        have hB3 : Below w.heap.size w w3 := hbr.trans (q7.free hzr (fun b hb => by have := HLb.out b hb; omega))
        exact ⟨i + 1, lab3, l23, ps3, vals3, es3, ws3, by go_num, by omega, q1.same hb4, by have := HPs.out; exact ⟨by omega, by omega, by omega, by omega⟩, fun b hb => by
          obtain ⟨e1, e2⟩ := q6 b (by omega)
          rw [e1, e2]
          exact HLb.out b hb, hB3.trans (hb4.mono hB3.size)⟩
      case measure => simp [intOf]; omega
    · have HAC : Hid (Calls Tryz.prog 10 #[.pointer (some ⟨w.heap.size, 0, none⟩)] wr fun e w' => e = .returned (.bool true) ∧ Off (fun b => lab1 b ≠ 7 ∨ l21 b ≠ 0) wr w') := HAS.out HL.out (by have := HPs.out; omega) (by have := HPs.out; omega) (by have := HPs.out; omega)
      clear HST HWH HAS
      go_wp2_with (go_at_call 10; refine HAC.out.mono ?_; rintro e w3 ⟨rfl, q⟩)
      go_ret
      exact ⟨rfl, hbr.trans (q.free hbr.size (fun b hb => by have := HLb.out b hb; omega))⟩
theorem tables_any (X : XGate) (l : List OpS) (ao : Option Addr) (cap : Nat) (w : World) (hin : OpsIn w ao l) (hok : ∀ o ∈ l, OpOK o ∧ Hd64 o.hd) (hlen : l.length ≤ 1000000000000) :
    Calls Tryz.prog 4 #[.slice ao l.length cap] w fun e w' => e = .returned (.bool true) ∧ Below w.heap.size w w' := by
  have HU : Hid (Calls Tryz.prog 5 #[.slice ao l.length cap, .bool true] w fun e w' => e = .returned (.int .i64 (-1)) ∧ Below w.heap.size w w') := upToT_any X l ao cap w hin hok hlen
  clear hin hok hlen
  go_enter Tryz.func4, Tryz.ntmps4
  go_wp2_with (go_at_call 5; refine HU.out.mono ?_; rintro e w1 ⟨rfl, hb1⟩)
  go_ret
  exact ⟨rfl, hb1⟩
end Go.Proofs.YtgkiknfpcbcnnaaGreat
namespace Go.Proofs.YtgkiknfpcbcnnaaGreat
open Go.ChangeShapes Go.WideShapes Go.RowKit Go.Deep Go.Joins
set_option maxRecDepth 20000
namespace tab
section
variable {H : Type} {enc : TypeId × Value → H} {w : World} {base : Nat} {spare : Nat → Bool} {held : Bool}
theorem open_hd {fuel : Nat} {cs : List Value} {x : DataW H × List MemPlace} (h : DataW.trod enc Tryz.prog w base spare held fuel 41 cs = some x) :
    ∃ h : Hd, cs = [.int .i64 h.ds, .int .i64 h.sr, .int .i64 h.pr, .int .i64 h.po, .int .i64 h.fl, .bool h.la] ∧ Hd64 h := by
  obtain ⟨y0, y1, y2, y3, y4, y5, n, _, hl, h0, h1, h2, h3, h4, h5⟩ := sta.tstruct6 Tryz.underlying41 h
  obtain ⟨c0, c1, c2, c3, c4, c5, rfl⟩ := sta.six (hl.trans sta.cellsHd)
  simp only [sta.cellsInt, sta.cellsBool, List.drop_zero, List.drop_succ_cons, List.take_succ_cons, List.take_zero] at h0 h1 h2 h3 h4 h5
  obtain ⟨n0, e0, _, b0⟩ := DataW.trod_int Tryz.underlying3 h0
  obtain ⟨n1, e1, _, b1⟩ := DataW.trod_int Tryz.underlying3 h1
  obtain ⟨n2, e2, _, b2⟩ := DataW.trod_int Tryz.underlying3 h2
  obtain ⟨n3, e3, _, b3⟩ := DataW.trod_int Tryz.underlying3 h3
  obtain ⟨n4, e4, _, b4⟩ := DataW.trod_int Tryz.underlying3 h4
  obtain ⟨n5, e5, _⟩ := DataW.trod_bool Tryz.underlying4 h5
  simp only [List.cons.injEq, and_true] at e0 e1 e2 e3 e4 e5
  exact ⟨⟨n0, n1, n2, n3, n4, n5⟩, by rw [e0, e1, e2, e3, e4, e5], ⟨sta.i64_of b0, sta.i64_of b1, sta.i64_of b2, sta.i64_of b3, sta.i64_of b4⟩⟩
theorem open_op {fuel : Nat} {cs : List Value} {x : DataW H × List MemPlace} (h : DataW.trod enc Tryz.prog w base spare held fuel 43 cs = some x) :
    ∃ o : OpS, cs = opL o ∧ i64 o.gt ∧ i64 o.pe ∧ i64 o.nn ∧ i64 o.bt ∧ i64 o.ln ∧ Hd64 o.hd ∧ ∃ m ∈ x.1.weights Tryz.prog 43, o.tx.size ≤ m := by
  obtain ⟨y0, y1, y2, y3, y4, y5, y6, y7, n, hx, hl, h0, h1, h2, h3, h4, h5, h6, h7⟩ := sta.tstruct8 Tryz.underlying43 h
  obtain ⟨a0, a1, a2, a3, a4, a5, a6, a7, a8, a9, a10, a11, a12, a13, a14, a15, a16, a17, a18, rfl⟩ := sta.nineteen (hl.trans sta.cellsOp)
  simp only [sta.cellsInt, sta.cellsStr, sta.cellsPf, sta.cellsHd, sta.cellsCf, List.drop_zero, List.drop_succ_cons, List.take_succ_cons, List.take_zero] at h0 h1 h2 h3 h4 h5 h6 h7
  obtain ⟨n0, e0, _⟩ := DataW.trod_int Tryz.underlying3 h0
  obtain ⟨n1, e1, _, b1⟩ := DataW.trod_int Tryz.underlying3 h1
  obtain ⟨n2, e2, _, b2⟩ := DataW.trod_int Tryz.underlying3 h2
  obtain ⟨n3, e3, _, b3⟩ := DataW.trod_int Tryz.underlying3 h3
  obtain ⟨s4, e4, x4, _⟩ := DataW.trod_string Tryz.underlying9 h4
  obtain ⟨z0, z1, n', _, _, k0, k1⟩ := trod_struct2 Tryz.underlying39 h5
  simp only [sta.cellsInt, List.drop_zero, List.drop_succ_cons, List.take_succ_cons, List.take_zero] at k0 k1
  obtain ⟨n5, e5, _, b5⟩ := DataW.trod_int Tryz.underlying3 k0
  obtain ⟨n6, e6, _, b6⟩ := DataW.trod_int Tryz.underlying3 k1
  obtain ⟨hd, e7, hd6⟩ := open_hd h6
  obtain ⟨cf, e8⟩ := sta.open_cf h7
  simp only [List.cons.injEq, and_true] at e0 e1 e2 e3 e4 e5 e6 e7 e8
  obtain ⟨f0, f1, f2, f3, f4, f5⟩ := e7
  obtain ⟨g0, g1, g2, g3, g4, g5⟩ := e8
  refine ⟨⟨n0, n1, n2, n3, s4, n5, n6, hd, cf⟩, by rw [e0, e1, e2, e3, e4, e5, e6, f0, f1, f2, f3, f4, f5, g0, g1, g2, g3, g4, g5]; rfl, sta.i64_of b1, sta.i64_of b2, sta.i64_of b3, sta.i64_of b5, sta.i64_of b6, hd6, s4.data.toList.length, ?_, ?_⟩
  · rw [hx]
    simp only [DataW.weights, Tryz.underlying43]
    refine DataW.weights_mem_each (j := 4) (t := 9) (d := y4.1) rfl rfl _ ?_
    rw [x4]
    simp [DataW.weights]
  · rw [Array.length_toList]; exact Nat.le_refl _
theorem open_ops {fuel : Nat} {cs : List Value} {x : DataW H × List MemPlace} (h : DataW.trod enc Tryz.prog w base spare held fuel 22 cs = some x) (hz : ∀ m ∈ x.1.weights Tryz.prog 22, m ≤ reachBytes) :
    ∃ (ao : Option Addr) (l : List OpS) (cap : Nat), cs = [.slice ao l.length cap] ∧ OpsIn w ao l ∧ l.length ≤ 1000000000000 ∧ ∀ o ∈ l, OpOK o ∧ Hd64 o.hd := by
  have hr : reachBytes = 140737488351232 := by decide
  rcases open_slice Tryz.underlying22 h with ⟨rfl, _⟩ | ⟨a, len, cap, m, n, D, Pl, rfl, _, hl, _, hm, rfl, hx⟩
  · exact ⟨none, [], 0, rfl, fun i hi => absurd hi (by simp), by simp, by simp⟩
  · rw [sta.cellsOp] at hx
    have hle : len ≤ m := by rw [hm]; split <;> omega
    simp only [DataW.weights, Tryz.underlying22, List.mem_cons, List.mem_append, List.length_map, List.length_range] at hz
    have hlen := hz _ (.inl rfl)
    have hall : ∀ i, i < len → ∃ o : OpS, (∃ b off, a = ⟨b, off, none⟩ ∧ b < w.heap.size ∧ w.rangeAt b (off + i * 19) (opL o)) ∧ OpOK o ∧ Hd64 o.hd := by
      intro i hi
      obtain ⟨cs', h1, h2⟩ := hx i (by omega)
      obtain ⟨o, rfl, q1, q2, q3, q4, q5, q6, k, hk, hkl⟩ := open_op h2
      obtain ⟨cs0, k1, _⟩ := hx 0 (by omega)
      obtain ⟨b, off, rfl⟩ := sta.no_spot19 k1
      have hrg := sta.rec_range h1
      have hb : b < w.heap.size := World.block_lt_of_cell? _ _ (hrg 0 _ rfl)
      refine ⟨o, ⟨b, off, rfl, hb, hrg⟩, ⟨q1, q2, q3, q4, q5, ?_⟩, q6⟩
      have := hz k (.inr (.inl (sta.all_mem (List.mem_map.2 ⟨i, List.mem_range.2 hi, rfl⟩) k hk)))
      omega
    haveI : Inhabited OpS := ⟨⟨0, 0, 0, 0, ⟨#[]⟩, 0, 0, ⟨0, 0, 0, 0, 0, false⟩, ⟨0, 0, 0, 0, 0, 0⟩⟩⟩
    obtain ⟨T, hT⟩ := choose_lt hall
    refine ⟨some a, (List.range len).map T, cap, by simp, ?_, ?_, ?_⟩
    · intro i hi
      simp only [List.length_map, List.length_range] at hi
      obtain ⟨⟨b, off, rfl, hb, c⟩, _⟩ := hT i hi
      exact ⟨b, off, rfl, hb, by simpa using c⟩
    · simp only [List.length_map, List.length_range]
      have hB := sta.bytesOp
      have h1 : (len + (m - len)) * 150 ≤ (len + (m - len)) * Tryz.prog.bytesOf 43 := Nat.mul_le_mul_left _ hB
      have h2 : (len + (m - len)) * 150 ≤ 140737488351232 := Nat.le_trans h1 (hr ▸ hlen)
      have h3 : len * 150 ≤ 140737488351232 := Nat.le_trans (Nat.mul_le_mul_right _ (Nat.le_add_right _ _)) h2
      exact Nat.le_of_mul_le_mul_right (Nat.le_trans h3 (by decide)) (by decide : 0 < 150)
    · intro o ho
      simp only [List.mem_map, List.mem_range] at ho
      obtain ⟨i, hi, rfl⟩ := ho
      exact (hT i hi).2
end
end tab
end Go.Proofs.YtgkiknfpcbcnnaaGreat
