import Derived.Test.YtgkiknfpcbcnnaaGr
namespace Go.Proofs.Ytgkiknfpcbcnnaa
open Go.RowKit
set_option maxRecDepth 20000

theorem IntsAt.below {w w' : World} {ao : Option Addr} {n : Nat} (h : IntsAt w ao n) (hb : Below w.heap.size w w') : IntsAt w' ao n := by
  intro i hi
  obtain ⟨b, off, z, e, hc, h1, h2⟩ := h i hi
  have hlt := World.block_lt_of_cell? w _ hc
  exact ⟨b, off, z, e, by rw [hb.cell hlt]; exact hc, h1, h2⟩

theorem isR_all {ps : List Pt} (h : isR ps = true) : ∀ p ∈ ps, isP p = true := by
  unfold isR at h
  simp only [Bool.and_eq_true] at h
  intro p hp
  obtain ⟨j, hj, rfl⟩ := List.getElem_of_mem hp
  exact allP_get ps 0 h.1 j hj

theorem wParts_small {ps : List Pt} (h : isR ps = true) : (wParts ps).size ≤ 140737488351232 := by
  have h5 := (isR_small h).1
  unfold isR at h
  simp only [Bool.and_eq_true] at h
  have := wParts_size ps 0 h.1
  omega

theorem cC_rules {ps qs : List Pt} (hp : isR ps = true) (hq : isR qs = true) : cC (wParts ps) (wParts qs) = cmpPs ps qs ∧ cE (wParts ps) (wParts qs) = 0 := by
  have e1 := decS_complete ps hp
  have e2 := decS_complete qs hq
  unfold cC cE dS
  rw [e1, e2]
  exact ⟨rfl, rfl⟩

theorem cmpPs_facts {ps qs : List Pt} (hp : isR ps = true) (hq : isR qs = true) : cmpPs ps qs = -cmpPs qs ps ∧ -1 ≤ cmpPs ps qs ∧ cmpPs ps qs ≤ 1 ∧ ((cmpPs ps qs == 0) = ((wParts ps).toList == (wParts qs).toList)) := by
  obtain ⟨a1, a2⟩ := parts_cmp ps qs (isR_all hp) (isR_all hq)
  obtain ⟨b1, _⟩ := parts_cmp qs ps (isR_all hq) (isR_all hp)
  have hb := cmpL_bd (keyR ps) (keyR qs)
  refine ⟨by rw [a1, b1]; exact cmpL_anti _ _, by rw [a1]; exact hb.1, by rw [a1]; exact hb.2, ?_⟩
  by_cases he : ps = qs
  · subst he
    rw [a1, cmpL_self]
    simp
  · have h1 : (cmpPs ps qs == 0) = false := beq_eq_false_iff_ne.2 fun hh => he (a2 hh)
    have h2 : ((wParts ps).toList == (wParts qs).toList) = false := beq_eq_false_iff_ne.2 fun hh => he (by
      rw [ByteArray.toList_eq, ByteArray.toList_eq] at hh
      have hw : wParts ps = wParts qs := bl_inj hh
      have e1 := decS_complete ps hp
      have e2 := decS_complete qs hq
      rw [hw, e2] at e1
      exact (Option.some.inj e1).symm)
    rw [h1, h2]

theorem cmpPs_trans {ps qs rs : List Pt} (hp : isR ps = true) (hq : isR qs = true) (hr : isR rs = true) : (cmpPs ps qs < 0 → cmpPs qs rs < 0 → cmpPs ps rs < 0) ∧ (0 < cmpPs ps qs → 0 < cmpPs qs rs → 0 < cmpPs ps rs) := by
  have a := (parts_cmp ps qs (isR_all hp) (isR_all hq)).1
  have b := (parts_cmp qs rs (isR_all hq) (isR_all hr)).1
  have c := (parts_cmp ps rs (isR_all hp) (isR_all hr)).1
  have t1 := cmpL_trans (keyR ps) (keyR qs) (keyR rs)
  have t2 := cmpL_trans (keyR rs) (keyR qs) (keyR ps)
  have n1 := cmpL_anti (keyR ps) (keyR qs)
  have n2 := cmpL_anti (keyR qs) (keyR rs)
  have n3 := cmpL_anti (keyR ps) (keyR rs)
  rw [a, b, c]
  refine ⟨t1, fun h1 h2 => ?_⟩
  have := t2 (by omega) (by omega)
  omega

set_option maxHeartbeats 400000 in
theorem compared_any (ps qs : List Pt) (w : World) (hp : isR ps = true) (hq : isR qs = true) :
    Calls Try.prog 38 #[.string (wParts ps), .string (wParts qs)] w fun e w' => e = .returned (.tuple #[.int .i64 (cmpPs ps qs), .bool true]) ∧ Below w.heap.size w w' := by
  obtain ⟨e1, e2⟩ := cC_rules hp hq
  have b1 := (cmpPs_facts hp hq).2.1
  have b2 := (cmpPs_facts hp hq).2.2.1
  have d1 : decide (-1 ≤ cmpPs ps qs) = true := by simpa using b1
  have d2 : decide (cmpPs ps qs ≤ 1) = true := by simpa using b2
  go_enter Try.func38, Try.ntmps38
  go_wp2_with fail
  refine (compare_any _ _ _ (wParts_small hp) (wParts_small hq)).mono ?_
  rintro e w1 ⟨rfl, hb1⟩
  rw [e1, e2]
  go_wp2
  go_ret2
  exact ⟨rfl, hb1⟩

set_option maxHeartbeats 1600000 in
theorem order_any (ao bo co : Option Addr) (n m k ca cb cc : Nat) (w : World) (hn : n ≤ 9223372036854775807) (hm : m ≤ 9223372036854775807) (hk : k ≤ 9223372036854775807) (ha : IntsAt w ao n) (hb : IntsAt w bo m) (hc : IntsAt w co k) :
    Calls Try.prog 11 #[.slice ao n ca, .slice bo m cb, .slice co k cc] w fun e w' => e = .returned (.bool true) ∧ Below w.heap.size w w' := by
  go_enter Try.func11, Try.ntmps11
  go_wp2_with fail
  refine (made_any ao n ca _ hn ha).mono ?_
  rintro e w1 ⟨ps, rfl, hp, b1⟩
  have hb' := hb.below b1
  have hc' := hc.below b1
  clear ha hb hc
  go_wp2_with fail
  refine (made_any bo m cb _ hm hb').mono ?_
  rintro e w2 ⟨qs, rfl, hq, b2⟩
  have hc'' := hc'.below b2
  clear hb' hc'
  go_wp2_with fail
  refine (made_any co k cc _ hk hc'').mono ?_
  rintro e w3 ⟨rs, rfl, hr, b3⟩
  clear hc''
  have B3 : Below w.heap.size w w3 := b1.trans ((b2.trans (b3.mono b2.size)).mono b1.size)
  clear b1 b2 b3
  go_wp2_with fail
  refine (compared_any ps qs _ hp hq).mono ?_
  rintro e w4 ⟨rfl, b4⟩
  have B4 : Below w.heap.size w w4 := B3.trans (b4.mono B3.size)
  go_wp2_with fail
  refine (compared_any qs ps _ hq hp).mono ?_
  rintro e w5 ⟨rfl, b5⟩
  have B5 : Below w.heap.size w w5 := B4.trans (b5.mono B4.size)
  clear B3 B4 b4 b5
  obtain ⟨x1, x2, x3, x4⟩ := cmpPs_facts hp hq
  obtain ⟨z2, z3, z4⟩ := (cmpPs_facts hq hr).2
  obtain ⟨v2, v3, v4⟩ := (cmpPs_facts hp hr).2
  obtain ⟨t1, t2⟩ := cmpPs_trans hp hq hr
  have HP : Hid (isR ps = true) := hp
  have HQ : Hid (isR qs = true) := hq
  have HR : Hid (isR rs = true) := hr
  have CBC := fun w => compared_any qs rs w hq hr
  have CAC := fun w => compared_any ps rs w hp hr
  have CBC' : Hid (∀ w : World, Calls Try.prog 38 #[.string (wParts qs), .string (wParts rs)] w fun e w' => e = .returned (.tuple #[.int .i64 (cmpPs qs rs), .bool true]) ∧ Below w.heap.size w w') := CBC
  have CAC' : Hid (∀ w : World, Calls Try.prog 38 #[.string (wParts ps), .string (wParts rs)] w fun e w' => e = .returned (.tuple #[.int .i64 (cmpPs ps rs), .bool true]) ∧ Below w.heap.size w w') := CAC
  clear CBC CAC hp hq hr
  generalize hY : cmpPs qs ps = Y at *
  generalize cmpPs ps qs = X at *
  generalize cmpPs qs rs = Z at *
  generalize cmpPs ps rs = V at *
  clear hY
  generalize wParts ps = A at *
  generalize wParts qs = B at *
  generalize wParts rs = C at *
  obtain rfl : Y = -X := by omega
  have HZ : Hid (-1 ≤ Z ∧ Z ≤ 1 ∧ -1 ≤ V ∧ V ≤ 1 ∧ (X < 0 → Z < 0 → V < 0) ∧ (0 < X → 0 < Z → 0 < V)) := ⟨z2, z3, v2, v3, t1, t2⟩
  have H4 : Hid ((Z == 0) = (B.toList == C.toList)) := z4
  have H5 : Hid ((V == 0) = (A.toList == C.toList)) := v4
  clear x1 z2 z3 v2 v3 t1 t2 z4 v4
  have hX : X = -1 ∨ X = 0 ∨ X = 1 := by omega
  clear x2 x3
  rcases hX with rfl | rfl | rfl
  all_goals
    have x5 := x4.symm
    clear x4
    simp only [Int.reduceNeg, Int.reduceBEq, BEq.rfl] at x5
    go_wp2_with fail
    refine (CBC'.out _).mono ?_
    rintro e w6 ⟨rfl, b6⟩
    go_wp2_with fail
    refine (CAC'.out _).mono ?_
    rintro e w7 ⟨rfl, b7⟩
    have B7 : Below w.heap.size w w7 := B5.trans ((b6.trans (b7.mono b6.size)).mono B5.size)
    clear b6 b7 B5 CBC' CAC'
    have hz := HZ.out
    have z5 := H4.out.symm
    have v5 := H5.out.symm
    clear HZ H4 H5
    have hZ : Z = -1 ∨ Z = 0 ∨ Z = 1 := by omega
    have hV : V = -1 ∨ V = 0 ∨ V = 1 := by omega
    rcases hZ with rfl | rfl | rfl <;> rcases hV with rfl | rfl | rfl
    all_goals
      first
      | (exfalso; omega)
      | (clear hz
         simp only [Int.reduceNeg, Int.reduceBEq, BEq.rfl] at z5 v5
         go_wp2
         go_ret
         exact ⟨rfl, B7⟩)
end Go.Proofs.Ytgkiknfpcbcnnaa
