import Derived.Test.YtgkiknfpcbcnnaaGreatTca
import Derived.Test.YtgkiknfpcbcnnaaGreatLbd
import Derived.Test.YtgkiknfpcbcnnaaGreatGp
namespace Go.Proofs.YtgkiknfpcbcnnaaGreat
open Go.RowKit
set_option maxRecDepth 20000
theorem insW_snoc (O : List En) : ∀ (l : List En) (i : Nat) (e : En), insW O i (l ++ [e]) = insW O i l ++ (if inT O e then [] else [⟨1, ((i + l.length : Nat) : Int), e⟩]) := by
  intro l
  induction l with
  | nil => intro i e; simp [insW]
  | cons a l ih =>
    intro i e
    simp only [List.cons_append, insW, List.length_cons]
    rw [ih]
    have : i + 1 + l.length = i + (l.length + 1) := by omega
    rw [this]
    split <;> rfl
theorem insW_take (O M : List En) (i : Nat) (h : i < M.length) : insW O 0 (M.take (i + 1)) = insW O 0 (M.take i) ++ (if inT O M[i] then [] else [⟨1, (i : Int), M[i]⟩]) := by
  rw [List.take_add_one, List.getElem?_eq_getElem h, Option.toList_some, insW_snoc]
  have : 0 + (M.take i).length = i := by rw [List.length_take]; omega
  rw [this]
set_option maxHeartbeats 1600000 in
theorem writesBetween_any (O A : List En) (oo ao : Option Addr) (oc ac : Nat) (w : World) (ho : EnIn w oo O) (ha : EnIn w ao A) (h1 : O.length ≤ 128) (h2 : A.length ≤ 128) (hM : (mgF A O 0).length ≤ 256) (hW : (wrS O A).length ≤ 256) :
    Calls Tryz.prog 70 #[.slice oo O.length oc, .slice ao A.length ac] w fun e w' => (∃ v, e = .returned v ∧ WRow w' w.heap.size v (wrS O A)) ∧ Below w.heap.size w w' := by
  obtain ⟨i0, hi, hz0, hz1, hz2⟩ := info_parts infoWrite
  have HMC : Hid (Calls Tryz.prog 93 #[.slice oo O.length oc, .slice ao A.length ac] w fun e w' => (∃ v, e = .returned v ∧ ERow w' w.heap.size v (mgF A O 0)) ∧ Below w.heap.size w w') := merged_any O A oo ao oc ac w ho ha h1 h2 hM
  have HSO : Hid (∀ (en : En) w', Below w.heap.size w w' → Calls Tryz.prog 94 #[.slice oo O.length oc, .agg #[.string en.bt, .int .i64 en.ac, .string en.tx]] w' fun e w'' => e = .returned (.bool (inT O en)) ∧ Below w'.heap.size w' w'') := fun en w' hb => entryStands_any O oo oc en w' (ho.below hb) (by omega)
  have HSA : Hid (∀ (en : En) w', Below w.heap.size w w' → Calls Tryz.prog 94 #[.slice ao A.length ac, .agg #[.string en.bt, .int .i64 en.ac, .string en.tx]] w' fun e w'' => e = .returned (.bool (inT A en)) ∧ Below w'.heap.size w' w'') := fun en w' hb => entryStands_any A ao ac en w' (ha.below hb) (by omega)
  have HWS : Hid (wrS O A = insW O 0 (mgF A O 0) ++ delW A (mgF A O 0) (mgF A O 0).length) := rfl
  clear ho ha
  obtain ⟨W, hWe⟩ : ∃ W, W = wrS O A := ⟨_, rfl⟩
  rw [← hWe] at HWS hW ⊢
  clear hWe
  generalize mgF A O 0 = M at *
  go_enter Tryz.func70, Tryz.ntmps70
  go_wp2_with (go_at_call 93; refine HMC.out.mono ?_; rintro e w1 ⟨⟨v, rfl, hm⟩, hb1⟩; obtain ⟨mo, mc, rfl⟩ := ownsRow_shape hm)
  have HM : Hid (EnIn w1 mo M) := EnIn.of hm
  have hzw := hb1.size
  clear hm HMC
  go_loopw [6, 15] (fun v x wr => ∃ (i : Nat) (T : List Wr), x = .int .i64 i ∧ i ≤ M.length ∧ WRow wr w1.heap.size v T ∧ Hid (T = insW O 0 (M.take i)) ∧ Below w1.heap.size w1 wr) (fun _ x _ => M.length - (intOf x).toNat)
  case atStart => exact ⟨0, [], rfl, Nat.zero_le _, WRow.nil _ _, rfl, Below.refl _ _⟩
  case round =>
    obtain ⟨i, T, rfl, hil, hrow, HT, hbel⟩ := hrel
    obtain ⟨to, tc, rfl⟩ := ownsRow_shape hrow
    have hz := hbel.size
    have hoW : ∀ {v : Value} {l : List Wr} {W : World}, WRow W w1.heap.size v l → W.ownsRow w1.heap.size 66 5 v l.length (wrCs l) := fun h => h
    have hbw : Below w.heap.size w wr := hb1.trans (hbel.mono hzw)
    have hzr := hbw.size
    have hTl : T.length ≤ 256 := by
      rw [HT.out, insW_len]
      refine Nat.le_trans List.countP_le_length ?_
      rw [List.length_take]; omega
    by_cases hlt : i < M.length
    · obtain ⟨rk, rfl, bz2, c0, c1, c2⟩ := HM.out.below hbel i hlt
      have HTK : Hid (insW O 0 (M.take (i + 1)) = insW O 0 (M.take i) ++ (if inT O M[i] then [] else [⟨1, (i : Int), M[i]⟩])) := insW_take O M i hlt
      generalize M[i] = r at *
      obtain ⟨rbt, rac, rtx⟩ := r
      simp only [] at c0 c1 c2
      have HSC : Hid (∀ w', Below w.heap.size w w' → Calls Tryz.prog 94 #[.slice oo O.length oc, .agg #[.string rbt, .int .i64 rac, .string rtx]] w' fun e w'' => e = .returned (.bool (inT O ⟨rbt, rac, rtx⟩)) ∧ Below w'.heap.size w' w'') := HSO.out ⟨rbt, rac, rtx⟩
      cases hin : inT O ⟨rbt, rac, rtx⟩
      · have HN : Hid (T ++ [⟨1, (i : Int), ⟨rbt, rac, rtx⟩⟩] = insW O 0 (M.take (i + 1))) := by
          show _ = _
          rw [HTK.out, hin, ← HT.out]
          rfl
        rw [hin] at HSC
        clear HT HTK hin
        go_wp2_with (first
          | (go_at_call 94; refine (HSC.out _ (hbw.alloc hzr _)).mono ?_; rintro e w2 ⟨rfl, hb2⟩; have hbw2 : Below w1.heap.size w1 w2 := (hbel.alloc hz _).trans (hb2.mono (by simp; omega)); have hr2 : WRow w2 w1.heap.size (.slice to T.length tc) T := WRow.below (WRow.below hrow (below_alloc _ _)) hb2; obtain ⟨x0, x1, x2, xz⟩ := cells_three hb2; have hz2' := hbw2.size)
          | (at_builtin; refine wpList_append_own _ rfl _ _ 68 rfl w1.heap.size 66 i0 _ 5 56 Tryz.underlying68 hi hz0 hz1 hz2 rfl (by decide) (.slice to T.length tc) T.length (wrCs T) rfl ((hoW hr2).alloc _) ⟨w2.heap.size, 0, none⟩ 1 1 (wrC ⟨1, (i : Int), ⟨rbt, rac, rtx⟩⟩) rfl rfl (World.news_of_block (heap_alloc_new w2 _)) (wrC_one _) (by unfold maxLen; omega) (by omega) (by simp; omega) ?_; intro v' w4 hown hgrow _; obtain ⟨ao', cap', rfl⟩ := ownsRow_shape hown))
        go_roundw
        case rel => exact ⟨i + 1, _, by go_num, by omega, WRow.snoc hown, HN, (hbw2.alloc hz2' _).grown hgrow (by simp; omega) (fun k hk => (World.ownsRow.lt (hoW hr2) k hk).1)⟩
        case measure => simp [intOf]; omega
      · have HN : Hid (T = insW O 0 (M.take (i + 1))) := by
          show _ = _
          rw [HTK.out, hin, ← HT.out]
          simp
        rw [hin] at HSC
        clear HT HTK hin
        go_wp2_with (go_at_call 94; refine (HSC.out _ (hbw.alloc hzr _)).mono ?_; rintro e w2 ⟨rfl, hb2⟩; have hbw2 : Below w1.heap.size w1 w2 := (hbel.alloc hz _).trans (hb2.mono (by simp; omega)); have hr2 : WRow w2 w1.heap.size (.slice to T.length tc) T := WRow.below (WRow.below hrow (below_alloc _ _)) hb2)
        go_roundw
        case rel => exact ⟨i + 1, T, by go_num, by omega, hr2, HN, hbw2⟩
        case measure => simp [intOf]; omega
    · have HT0 : Hid (W = T ++ delW A M M.length) := by show _ = _; rw [HWS.out, HT.out, List.take_of_length_le (by omega)]
      clear HT HWS
      go_wp2_with fail
      go_loopw [6, 9] (fun v x wr => ∃ (n : Nat) (S : List Wr), x = .int .i64 ((n : Int) - 1) ∧ n ≤ M.length ∧ WRow wr w1.heap.size v S ∧ Hid (W = S ++ delW A M n) ∧ Below w1.heap.size w1 wr) (fun _ x _ => (intOf x + 1).toNat)
      case atStart => exact ⟨M.length, T, rfl, Nat.le_refl _, hrow, HT0, hbel⟩
      case round =>
        clear HT0 hrow hTl hbel hz hbw hzr
        obtain ⟨n, S, rfl, hnM, hrowS, HS, hbS⟩ := hrel
        obtain ⟨so, sc, rfl⟩ := ownsRow_shape hrowS
        have hzS := hbS.size
        have hbwS : Below w.heap.size w wr := hb1.trans (hbS.mono hzw)
        have hSl : S.length ≤ 256 := by have := congrArg List.length HS.out; rw [List.length_append] at this; omega
        cases n with
        | zero =>
          have HF : Hid (W = S) := by show _ = _; rw [HS.out]; simp [delW]
          clear HS
          go_wp2_with fail
          go_ret
          exact ⟨⟨_, rfl, by rw [HF.out]; exact ownsRow_base hrowS (by omega)⟩, hb1.trans (hbS.mono hzw)⟩
        | succ n =>
          have hlt' : n < M.length := by omega
          obtain ⟨rk, rfl, bz2, c0, c1, c2⟩ := HM.out.below hbS n hlt'
          have en : ((n + 1 : Nat) : Int) - 1 = (n : Int) := by omega
          rw [en]
          have HTK : Hid (delW A M (n + 1) = (if inT A M[n] then [] else [⟨2, (n : Int), enZ⟩]) ++ delW A M n) := by
            show _ = _
            simp only [delW]
            rw [List.getElem?_eq_getElem hlt']
          generalize M[n] = r at *
          obtain ⟨rbt, rac, rtx⟩ := r
          simp only [] at c0 c1 c2
          have HSC : Hid (∀ w', Below w.heap.size w w' → Calls Tryz.prog 94 #[.slice ao A.length ac, .agg #[.string rbt, .int .i64 rac, .string rtx]] w' fun e w'' => e = .returned (.bool (inT A ⟨rbt, rac, rtx⟩)) ∧ Below w'.heap.size w' w'') := HSA.out ⟨rbt, rac, rtx⟩
          clear en
          cases hin : inT A ⟨rbt, rac, rtx⟩
          · have HN : Hid (W = (S ++ [⟨2, (n : Int), enZ⟩]) ++ delW A M n) := by
              show _ = _
              rw [HS.out, HTK.out, hin, List.append_assoc]
              rfl
            rw [hin] at HSC
            clear HS HTK hin
            go_wp2_with (first
              | (go_at_call 94; refine (HSC.out _ hbwS).mono ?_; rintro e w2 ⟨rfl, hb2⟩; have hbw2 : Below w1.heap.size w1 w2 := hbS.trans (hb2.mono hzS); have hr2 : WRow w2 w1.heap.size (.slice so S.length sc) S := WRow.below hrowS hb2; have hz2' := hbw2.size)
              | (at_builtin; refine wpList_append_own _ rfl _ _ 68 rfl w1.heap.size 66 i0 _ 5 56 Tryz.underlying68 hi hz0 hz1 hz2 rfl (by decide) (.slice so S.length sc) S.length (wrCs S) rfl ((hoW hr2).alloc _) ⟨w2.heap.size, 0, none⟩ 1 1 (wrC ⟨2, (n : Int), enZ⟩) rfl rfl (World.news_of_block (heap_alloc_new w2 _)) (wrC_one _) (by unfold maxLen; omega) (by omega) (by simp; omega) ?_; intro v' w4 hown hgrow _; obtain ⟨ao', cap', rfl⟩ := ownsRow_shape hown))
            go_roundw
            case rel => exact ⟨n, _, by go_num, by omega, WRow.snoc hown, HN, (hbw2.alloc hz2' _).grown hgrow (by simp; omega) (fun k hk => (World.ownsRow.lt (hoW hr2) k hk).1)⟩
            case measure => simp [intOf]
          · have HN : Hid (W = S ++ delW A M n) := by
              show _ = _
              rw [HS.out, HTK.out, hin]
              rfl
            rw [hin] at HSC
            clear HS HTK hin
            go_wp2_with (go_at_call 94; refine (HSC.out _ hbwS).mono ?_; rintro e w2 ⟨rfl, hb2⟩; have hbw2 : Below w1.heap.size w1 w2 := hbS.trans (hb2.mono hzS); have hr2 : WRow w2 w1.heap.size (.slice so S.length sc) S := WRow.below hrowS hb2)
            go_roundw
            case rel => exact ⟨n, S, by go_num, by omega, hr2, HN, hbw2⟩
            case measure => simp [intOf]
end Go.Proofs.YtgkiknfpcbcnnaaGreat
namespace Go.Proofs.YtgkiknfpcbcnnaaGreat
open Go.RowKit
set_option maxRecDepth 20000
theorem tabL_take (l : List (Rl × Int)) (i : Nat) (h : i < l.length) : tabL (l.take (i + 1)) = tabL (l.take i) ++ enOf l[i] := by
  unfold tabL
  rw [List.take_add_one, List.getElem?_eq_getElem h, List.flatMap_append]
  simp
theorem tabL_le (l : List (Rl × Int)) (i : Nat) : (tabL (l.take i)).length ≤ (tabL l).length := by
  have e : tabL l = tabL (l.take i) ++ tabL (l.drop i) := by unfold tabL; rw [← List.flatMap_append, List.take_append_drop]
  rw [e, List.length_append]
  omega
theorem StrRow.in_ {w : World} {B : Nat} {ao : Option Addr} {c : Nat} {L : List ByteArray} (h : StrRow w B (.slice ao L.length c) L) : ∀ i (hi : i < L.length), ∃ g, ao = some ⟨g, 0, none⟩ ∧ g < w.heap.size ∧ w.cell? ⟨g, i, none⟩ = some (.string L[i]) := fun i hi => by
  obtain ⟨g, e, hg, hc⟩ := row_some' h (by omega)
  exact ⟨g, e, hg, hc i hi⟩
structure Mid (k : Nat) (w w' : World) : Prop where
  size : w.heap.size ≤ w'.heap.size
  block : ∀ b, k ≤ b → b < w.heap.size → w'.heap[b]? = w.heap[b]?
theorem Mid.refl (k : Nat) (w : World) : Mid k w w := ⟨Nat.le_refl _, fun _ _ _ => rfl⟩
theorem Mid.cell {k : Nat} {w w' : World} (h : Mid k w w') {a : Addr} (h1 : k ≤ a.block) (h2 : a.block < w.heap.size) : w'.cell? a = w.cell? a := World.cell?_of_block (h.block _ h1 h2)
set_option maxHeartbeats 1600000 in
theorem landTable_any (g : Nat) (st : Gs) (F : Nat → Prop) (w : World) (h : LGate w g st F) :
    Calls Tryz.prog 38 #[.pointer (some ⟨g, 0, none⟩)] w fun e w' => (∃ v, e = .returned v ∧ ERow w' w.heap.size v (tabS st)) ∧ Below w.heap.size w w' := by
  obtain ⟨i0, hi, hz0, hz1, hz2⟩ := info_parts infoEntry
  have HSC : Hid (Calls Tryz.prog 34 #[.pointer (some ⟨g, 0, none⟩)] w fun e w' => (∃ v, e = .returned v ∧ TRow w' w.heap.size v (stats st)) ∧ Below w.heap.size w w') := landStatus_any g st F w h
  have HSZ : Hid (∀ x ∈ stats st, x.1.tx.size ≤ 140737488351232) := fun x hx => by
    have hm := (List.of_mem_zip (a := x.1) (b := x.2) hx).1
    exact h.sz _ ((sortR_perm _).mem_iff.1 hm)
  have hL24 : (stats st).length ≤ 24 := by rw [stats_len]; exact h.ok.l24
  have h128 : (tabL (stats st)).length ≤ 128 := tabS_len h.ok
  have HTS : Hid (tabS st = tabL (stats st)) := rfl
  clear h
  obtain ⟨R, hR⟩ : ∃ R, R = tabS st := ⟨_, rfl⟩
  rw [← hR] at HTS ⊢
  clear hR
  generalize stats st = L at *
  go_enter Tryz.func38, Tryz.ntmps38
  go_wp2_with (go_at_call 34; refine HSC.out.mono ?_; rintro e w1 ⟨⟨v, rfl, hm⟩, hb1⟩; obtain ⟨lo, lc, rfl⟩ := ownsRow_shape hm)
  have HL : Hid (∀ W, Below w1.heap.size w1 W → ∀ i (hi : i < L.length), ∃ g, lo = some ⟨g, 0, none⟩ ∧ g < W.heap.size ∧ W.cell? ⟨g, i * 4, none⟩ = some (.string L[i].1.tx) ∧ W.cell? ⟨g, i * 4 + 1, none⟩ = some (.int .i64 L[i].1.pe) ∧ W.cell? ⟨g, i * 4 + 2, none⟩ = some (.int .i64 L[i].1.ac) ∧ W.cell? ⟨g, i * 4 + 3, none⟩ = some (.int .i64 L[i].2)) := fun W hW i hi => by
    obtain ⟨g, e, hg, hc⟩ := TRow.get hm (by omega)
    obtain ⟨d0, d1, d2, d3⟩ := hc i hi
    have := hW.size
    exact ⟨g, e, by omega, (hW.cell (p := ⟨g, i * 4, none⟩) hg).trans d0, (hW.cell (p := ⟨g, i * 4 + 1, none⟩) hg).trans d1, (hW.cell (p := ⟨g, i * 4 + 2, none⟩) hg).trans d2, (hW.cell (p := ⟨g, i * 4 + 3, none⟩) hg).trans d3⟩
  have hzw := hb1.size
  clear hm HSC
  go_loopw [3, 13] (fun v x wr => ∃ (i : Nat) (T : List En), x = .int .i64 i ∧ i ≤ L.length ∧ ERow wr w1.heap.size v T ∧ Hid (T = tabL (L.take i)) ∧ Below w1.heap.size w1 wr) (fun _ x _ => L.length - (intOf x).toNat)
  case atStart => exact ⟨0, [], rfl, Nat.zero_le _, ERow.nil _ _, rfl, Below.refl _ _⟩
  case round =>
    obtain ⟨i, T, rfl, hil, hrow, HT, hbel⟩ := hrel
    obtain ⟨to, tc, rfl⟩ := ownsRow_shape hrow
    have hoE : ∀ {v : Value} {l : List En} {W : World}, ERow W w1.heap.size v l → W.ownsRow w1.heap.size 63 3 v l.length (enCs l) := fun h => h
    have hz := hbel.size
    by_cases hlt : i < L.length
    · obtain ⟨rk, rfl, bz2, c0, c1, c2, c3⟩ := HL.out wr hbel i hlt
      have HTK : Hid (tabL (L.take (i + 1)) = tabL (L.take i) ++ enOf L[i]) := tabL_take L i hlt
      have hTK1 := tabL_le L (i + 1)
      have hsz := HSZ.out L[i] (List.getElem_mem hlt)
      generalize L[i] = x at *
      obtain ⟨⟨tx, pe, ac⟩, s⟩ := x
      simp only [] at c0 c1 c2 c3 hsz
      by_cases hs : s = 3
      · subst hs
        have q3 : ((3 : Int) != 3) = false := by simp
        have HEN : Hid (enOf (⟨tx, pe, ac⟩, 3) = (cbB tx).map fun b => ⟨b, ac, tx⟩) := rfl
        have HLE : Hid ((T ++ (cbB tx).map fun b => (⟨b, ac, tx⟩ : En)).length ≤ 128) := by
          show _ ≤ _
          rw [HT.out, ← HEN.out, ← HTK.out]
          omega
        have HN0 : Hid (tabL (L.take (i + 1)) = T ++ (cbB tx).map fun b => ⟨b, ac, tx⟩) := by show _ = _; rw [HTK.out, HEN.out, HT.out]
        clear HT HTK HEN hTK1
        obtain ⟨wA, hwA⟩ : ∃ wA, wA = wr.alloc (.cells #[.string tx, .int .i64 pe, .int .i64 ac, .int .i64 3] 59) := ⟨_, rfl⟩
        have hbA : Below wr.heap.size wr wA := by rw [hwA]; exact below_alloc _ _
        have hnA : wA.heap[wr.heap.size]? = some (.cells #[.string tx, .int .i64 pe, .int .i64 ac, .int .i64 3] 59 (0, 0)) := by rw [hwA]; exact heap_alloc_new wr _
        have HWA : Hid (wA = wr.alloc (.cells #[.string tx, .int .i64 pe, .int .i64 ac, .int .i64 3] 59)) := hwA
        clear hwA
        have HCC : Hid (Calls Tryz.prog 68 #[.string tx] wA fun e w' => CubPost tx wA.heap.size e w' ∧ Below wA.heap.size wA w') := flowCubes_any tx wA hsz
        go_wp2_with (go_at_call 68; rw [← HWA.out]; refine HCC.out.mono ?_; rintro e w2 ⟨⟨v2, L2, rfl, hr2, hl2⟩, hb2⟩; obtain ⟨cu, cc, rfl⟩ := ownsRow_shape hr2)
        have hL2 : L2 = cbB tx := cbB_of hl2
        rw [← hL2] at HLE HN0
        clear hl2 hL2
        have HCU : Hid (∀ i (hi : i < L2.length), ∃ g, cu = some ⟨g, 0, none⟩ ∧ (wr.heap.size ≤ g ∧ g < w2.heap.size) ∧ w2.cell? ⟨g, i, none⟩ = some (.string L2[i])) := fun i hi => by
          obtain ⟨g, e, hg, hc⟩ := StrRow.in_ hr2 i hi
          have := (World.ownsRow.lt hr2 g (by rw [e]; rfl)).1
          have := hbA.size
          exact ⟨g, e, ⟨by omega, hg⟩, hc⟩
        have hL2l : L2.length ≤ 128 := by have := HLE.out; rw [List.length_append, List.length_map] at this; omega
        have HTL : Hid (T.length + L2.length ≤ 128) := by have := HLE.out; rw [List.length_append, List.length_map] at this; exact this
        have hbw2 : Below w1.heap.size w1 w2 := hbel.trans ((hbA.trans (hb2.mono hbA.size)).mono hz)
        have hr2' : ERow w2 w1.heap.size (.slice to T.length tc) T := ERow.below (ERow.below hrow hbA) hb2
        have hn2 : w2.heap[wr.heap.size]? = some (.cells #[.string tx, .int .i64 pe, .int .i64 ac, .int .i64 3] 59 (0, 0)) := (hb2.block wr.heap.size (lt_of_block hnA)).trans hnA
        have hzv := lt_of_block hn2
        have v0 := cell_of_row w2 wr.heap.size 0 _ _ _ hn2
        have v2 := cell_of_row w2 wr.heap.size 2 _ _ _ hn2
        simp only [List.getElem?_toArray, List.getElem?_cons_zero, List.getElem?_cons_succ] at v0 v2
        have HV : Hid (∀ W, Mid wr.heap.size w2 W → W.cell? ⟨wr.heap.size, 0, none⟩ = some (.string tx) ∧ W.cell? ⟨wr.heap.size, 2, none⟩ = some (.int .i64 ac)) := fun W hW => ⟨(hW.cell (a := ⟨wr.heap.size, 0, none⟩) (Nat.le_refl _) hzv).trans v0, (hW.cell (a := ⟨wr.heap.size, 2, none⟩) (Nat.le_refl _) hzv).trans v2⟩
        have hTb : ∀ b, (Value.slice to T.length tc).ownBlock = some b → b < wr.heap.size ∨ w2.heap.size ≤ b := fun b hb => .inl (World.ownsRow.lt (hoE hrow) b hb).2
        obtain ⟨kv, hkv⟩ : ∃ kv, kv = wr.heap.size := ⟨_, rfl⟩
        have HKV : Hid (kv = wr.heap.size) := hkv
        rw [← hkv] at HV HCU hTb
        clear hkv
        clear hr2 hb2 hn2 hnA HWA HCC HLE c0 c1 c2 c3 v0 v2 hzv
        go_wp2_with fail
        go_loopw [3, 28] (fun v x wr' => ∃ (j : Nat) (S : List En), x = .int .i64 j ∧ j ≤ L2.length ∧ ERow wr' w1.heap.size v S ∧ Hid (S = T ++ (L2.take j).map fun b => ⟨b, ac, tx⟩) ∧ Below w1.heap.size w1 wr' ∧ Mid kv w2 wr' ∧ ∀ b, v.ownBlock = some b → b < kv ∨ w2.heap.size ≤ b) (fun _ x _ => L2.length - (intOf x).toNat)
        case atStart => exact ⟨0, T, rfl, Nat.zero_le _, hr2', by show _ = _; simp, hbw2, Mid.refl _ _, hTb⟩
        case round =>
          obtain ⟨j, S, rfl, hjl, hrowS, HS, hbS, hmid, hSb⟩ := hrel
          obtain ⟨so, sc, rfl⟩ := ownsRow_shape hrowS
          have hzS := hbS.size
          have hSl : S.length ≤ 128 := by
            have h4 := congrArg List.length HS.out
            have h5 := HTL.out
            simp only [List.length_append, List.length_map, List.length_take] at h4
            omega
          by_cases hlt' : j < L2.length
          · obtain ⟨rk', rfl, bz3, d0⟩ := HCU.out j hlt'
            have HT2 : Hid (S ++ [⟨L2[j], ac, tx⟩] = T ++ (L2.take (j + 1)).map fun b => ⟨b, ac, tx⟩) := by
              show _ = _
              rw [HS.out, List.take_add_one, List.getElem?_eq_getElem hlt', List.map_append, List.append_assoc]
              rfl
            generalize L2[j] = cb at *
            have e0 := (hmid.cell (a := ⟨rk', j, none⟩) bz3.1 bz3.2).trans d0
            obtain ⟨e1, e2⟩ := HV.out _ hmid
            rw [HKV.out] at e1 e2
            have hmz := hmid.size
            clear HS
            go_wp2_with (at_builtin; refine wpList_append_lies _ rfl _ _ 53 rfl w1.heap.size 63 i0 _ 3 40 Tryz.underlying53 hi hz0 hz1 hz2 rfl (by decide) (.slice so S.length sc) S.length (enCs S) rfl ((hoE hrowS).alloc _) ⟨wr.heap.size, 0, none⟩ 1 1 (enC ⟨cb, ac, tx⟩) rfl rfl (World.news_of_block (heap_alloc_new wr _)) (enC_one _) (by decide) (by unfold maxLen; omega) (by omega) (by simp; omega) _ rfl ?_; intro g' cap' w4 hown hgrow hat hlt4)
            go_roundw
            case rel =>
              refine ⟨j + 1, _, by go_num, by omega, ERow.snoc hown, HT2, (hbS.alloc hzS _).grown hgrow (by simp; omega) (fun k hk => (World.ownsRow.lt (hoE hrowS) k hk).1), ⟨?_, ?_⟩, ?_⟩
              · have := hgrow.size; simp only [World.size_alloc] at this; omega
              · intro b h1 h2
                refine (hgrow.block b (by simp; omega) (fun e => ?_)).trans ((heap_alloc_old wr _ (by omega)).trans (hmid.block b h1 h2))
                rcases hSb b e.symm with h | h <;> omega
              · intro b hb
                have e : g' = b := by simpa [Value.ownBlock] using hb
                subst e
                rcases hat with hat | hat
                · exact hSb _ hat
                · simp at hat; exact .inr (by omega)
            case measure => simp [intOf]; omega
          · have HN : Hid (S = tabL (L.take (i + 1))) := by show _ = _; rw [HS.out, HN0.out, List.take_of_length_le (by omega)]
            clear HS HN0
            go_wp2_with fail
            go_roundw
            case rel => exact ⟨i + 1, S, by go_num, by omega, hrowS, HN, hbS⟩
            case measure => simp [intOf]; omega
      · have q3 : (s != 3) = true := by simpa using hs
        have HN : Hid (T = tabL (L.take (i + 1))) := by
          show _ = _
          rw [HTK.out, ← HT.out]
          simp [enOf, hs]
        clear HT HTK hs
        go_wp2_with fail
        go_roundw
        case rel => exact ⟨i + 1, T, by go_num, by omega, ERow.below hrow (below_alloc _ _), HN, hbel.alloc hz _⟩
        case measure => simp [intOf]; omega
    · have HF : Hid (R = T) := by show _ = _; rw [HTS.out, HT.out, List.take_of_length_le (by omega)]
      clear HT HTS
      go_wp2_with fail
      go_ret
      exact ⟨⟨_, rfl, by rw [HF.out]; exact ownsRow_base hrow (by omega)⟩, hb1.trans (hbel.mono hzw)⟩
set_option maxHeartbeats 400000 in
theorem writesSince_any (g : Nat) (st : Gs) (F : Nat → Prop) (O : List En) (oo : Option Addr) (oc : Nat) (w : World) (h : LGate w g st F) (ho : EnIn w oo O) (h1 : O.length ≤ 128) (hM : (mgF (tabS st) O 0).length ≤ 256) (hW : (wrS O (tabS st)).length ≤ 256) :
    Calls Tryz.prog 44 #[.pointer (some ⟨g, 0, none⟩), .slice oo O.length oc] w fun e w' => (∃ v, e = .returned v ∧ WRow w' w.heap.size v (wrS O (tabS st))) ∧ Below w.heap.size w w' := by
  have HT : Hid (Calls Tryz.prog 38 #[.pointer (some ⟨g, 0, none⟩)] w fun e w' => (∃ v, e = .returned v ∧ ERow w' w.heap.size v (tabS st)) ∧ Below w.heap.size w w') := landTable_any g st F w h
  have h2 : (tabS st).length ≤ 128 := tabS_len h.ok
  have HO : Hid (EnIn w oo O) := ho
  clear h ho
  generalize tabS st = A at *
  go_enter Tryz.func44, Tryz.ntmps44
  go_wp2_with (first
    | (go_at_call 38; refine HT.out.mono ?_; rintro e w1 ⟨⟨v, rfl, hm⟩, hb1⟩; obtain ⟨lo, lc, rfl⟩ := ownsRow_shape hm)
    | (go_at_call 70; refine (writesBetween_any O A oo lo oc lc w1 (HO.out.below hb1) (EnIn.of hm) h1 h2 hM hW).mono ?_; rintro e w2 ⟨⟨v2, rfl, hm2⟩, hb2⟩; obtain ⟨xo, xc, rfl⟩ := ownsRow_shape hm2))
  go_ret
  exact ⟨⟨_, rfl, ownsRow_base hm2 hb1.size⟩, hb1.trans (hb2.mono hb1.size)⟩
end Go.Proofs.YtgkiknfpcbcnnaaGreat
