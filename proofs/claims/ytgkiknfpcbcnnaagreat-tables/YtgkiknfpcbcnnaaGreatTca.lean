import Derived.Test.YtgkiknfpcbcnnaaGreatTba
import Derived.Test.YtgkiknfpcbcnnaaGreatLba
namespace Go.Proofs.YtgkiknfpcbcnnaaGreat
open Go.RowKit
set_option maxRecDepth 20000
theorem cells_three {w : World} {a b c : Value} {ty : Nat} {w1 : World} (hb : Below (w.alloc (.cells #[a, b, c] ty)).heap.size (w.alloc (.cells #[a, b, c] ty)) w1) :
    w1.cell? ⟨w.heap.size, 0, none⟩ = some a ∧ w1.cell? ⟨w.heap.size, 1, none⟩ = some b ∧ w1.cell? ⟨w.heap.size, 2, none⟩ = some c ∧ w.heap.size < w1.heap.size := by
  have hz := hb.size
  simp only [World.size_alloc] at hz
  refine ⟨?_, ?_, ?_, by omega⟩
  all_goals exact (hb.cell (by simp)).trans (by simp [go_sem])
set_option maxHeartbeats 1600000 in
theorem placeOfEntry_any (l : List En) (ao : Option Addr) (cap : Nat) (en : En) (w : World) (hin : EnIn w ao l) (h256 : l.length ≤ 256) :
    Calls Tryz.prog 112 #[.slice ao l.length cap, .agg #[.string en.bt, .int .i64 en.ac, .string en.tx]] w fun e w' => e = .returned (.int .i64 (plE l en : Nat)) ∧ Below w.heap.size w w' := by
  have HI : Hid (EnIn w ao l) := hin
  clear hin
  obtain ⟨R, hR⟩ : ∃ R, R = plE l en := ⟨_, rfl⟩
  have HR : Hid (R = plE l en) := hR
  rw [← hR]; clear hR
  obtain ⟨ebt, eac, etx⟩ := en
  simp only []
  go_enter Tryz.func112, Tryz.ntmps112
  go_wp2_with fail
  go_loopw [9] (fun x wr => ∃ i : Nat, x = .int .i64 i ∧ i ≤ l.length ∧ Hid (R = i + plE (l.drop i) ⟨ebt, eac, etx⟩) ∧ Below (w.alloc (.cells #[.string ebt, .int .i64 eac, .string etx] 63)).heap.size (w.alloc (.cells #[.string ebt, .int .i64 eac, .string etx] 63)) wr) (fun x _ => l.length - (intOf x).toNat)
  case atStart => exact ⟨0, rfl, Nat.zero_le _, by show _ = _; rw [HR.out]; simp, Below.refl _ _⟩
  case round =>
    obtain ⟨i, rfl, hil, H, hbel⟩ := hrel
    obtain ⟨a0, a1, a2, az⟩ := cells_three hbel
    have hb0 := below_first hbel
    have hz := hbel.size
    simp only [World.size_alloc] at hz
    by_cases hlt : i < l.length
    · obtain ⟨rk, rfl, bz2, c0, c1, c2⟩ := HI.out.below hb0 i hlt
      have HFT : Hid (plE (l.drop i) ⟨ebt, eac, etx⟩ = if enEq l[i] ⟨ebt, eac, etx⟩ then 0 else plE (l.drop (i + 1)) ⟨ebt, eac, etx⟩ + 1) := find_drop _ l i hlt
      generalize l[i] = r at *
      obtain ⟨rbt, rac, rtx⟩ := r
      simp only [] at c0 c1 c2
      have hgo : ¬ (rbt = ebt ∧ rac = eac ∧ rtx = etx) → Hid (R = (i + 1) + plE (l.drop (i + 1)) ⟨ebt, eac, etx⟩) := fun hne => by
        show _ = _
        have hq : enEq ⟨rbt, rac, rtx⟩ ⟨ebt, eac, etx⟩ = false := by
          cases hh : enEq ⟨rbt, rac, rtx⟩ ⟨ebt, eac, etx⟩
          · rfl
          · have := (enEq_iff _ _).1 hh
            simp only [En.mk.injEq] at this
            exact absurd this hne
        rw [H.out, HFT.out, hq]
        simp
        omega
      have hbA := hbel.alloc (by simp only [World.size_alloc]; omega) (.cells #[.string rbt, .int .i64 rac, .string rtx] 63)
      by_cases e1 : rbt = ebt ∧ rac = eac ∧ rtx = etx
      · obtain ⟨rfl, rfl, rfl⟩ := e1
        have HF : Hid (R = i) := by
          show _ = _
          rw [H.out, HFT.out, enEq_self]
          rfl
        clear H HFT hgo
        go_wp2_with fail
        go_ret
        exact ⟨by rw [HF.out]; rfl, below_first hbA⟩
      · have HN := hgo e1
        have q : (rbt.toList == ebt.toList) = false ∨ (rac == eac) = false ∨ (rtx.toList == etx.toList) = false := by
          by_cases x : rbt = ebt
          · by_cases y : rac = eac
            · exact .inr (.inr (text_ne fun z => e1 ⟨x, y, z⟩))
            · exact .inr (.inl (by simpa using y))
          · exact .inl (text_ne x)
        clear H HFT hgo e1
        rcases q with q | q | q
        all_goals
          go_wp2_with fail
          go_roundw
          case rel => exact ⟨i + 1, by go_num, by omega, HN, hbA⟩
          case measure => simp [intOf]; omega
    · have HF : Hid (R = l.length) := by
        show _ = _
        rw [H.out, List.drop_of_length_le (by omega)]
        show i + 0 = _
        omega
      clear H
      go_wp2_with fail
      go_ret
      exact ⟨by rw [HF.out]; rfl, hb0⟩
theorem stands_eq (l : List En) (e : En) : decide (plE l e < l.length) = inT l e := by
  rw [Bool.eq_iff_iff, decide_eq_true_eq, inT_iff, ← plE_lt]
set_option maxHeartbeats 400000 in
theorem entryStands_any (l : List En) (ao : Option Addr) (cap : Nat) (en : En) (w : World) (hin : EnIn w ao l) (h256 : l.length ≤ 256) :
    Calls Tryz.prog 94 #[.slice ao l.length cap, .agg #[.string en.bt, .int .i64 en.ac, .string en.tx]] w fun e w' => e = .returned (.bool (inT l en)) ∧ Below w.heap.size w w' := by
  have HP : Hid (∀ w', Below w.heap.size w w' → Calls Tryz.prog 112 #[.slice ao l.length cap, .agg #[.string en.bt, .int .i64 en.ac, .string en.tx]] w' fun e w'' => e = .returned (.int .i64 (plE l en : Nat)) ∧ Below w.heap.size w w'') := fun w' hb => (placeOfEntry_any l ao cap en w' (hin.below hb) h256).mono fun _ _ h => ⟨h.1, hb.trans (h.2.mono hb.size)⟩
  have HE : Hid (decide (plE l en < l.length) = inT l en) := stands_eq l en
  obtain ⟨R, hR⟩ : ∃ R, R = inT l en := ⟨_, rfl⟩
  rw [← hR] at HE ⊢
  clear hR
  clear hin
  go_enter Tryz.func94, Tryz.ntmps94
  go_wp2_with (go_at_call 112; refine (HP.out _ (below_alloc _ _)).mono ?_; rintro e w1 ⟨rfl, hb1⟩)
  go_ret
  exact ⟨by rw [← HE.out]; rfl, hb1⟩
end Go.Proofs.YtgkiknfpcbcnnaaGreat
namespace Go.Proofs.YtgkiknfpcbcnnaaGreat
open Go.RowKit
set_option maxRecDepth 20000
theorem take_drop_step {A : List En} {n m : Nat} (hm : m < A.length) (hn : n ≤ m) : (A.take (m + 1)).drop n = (A.take m).drop n ++ [A[m]] := by
  rw [List.take_add_one, List.getElem?_eq_getElem hm, List.drop_append]
  have : n - (A.take m).length = 0 := by rw [List.length_take]; omega
  rw [this]
  rfl
set_option maxHeartbeats 1600000 in
theorem merged_any (O A : List En) (oo ao : Option Addr) (oc ac : Nat) (w : World) (ho : EnIn w oo O) (ha : EnIn w ao A) (h1 : O.length ≤ 128) (h2 : A.length ≤ 128) (hM : (mgF A O 0).length ≤ 256) :
    Calls Tryz.prog 93 #[.slice oo O.length oc, .slice ao A.length ac] w fun e w' => (∃ v, e = .returned v ∧ ERow w' w.heap.size v (mgF A O 0)) ∧ Below w.heap.size w w' := by
  obtain ⟨i0, hi, hz0, hz1, hz2⟩ := info_parts infoEntry
  have HO : Hid (EnIn w oo O) := ho
  have HA : Hid (EnIn w ao A) := ha
  have HP : Hid (∀ (en : En) w', Below w.heap.size w w' → Calls Tryz.prog 112 #[.slice ao A.length ac, .agg #[.string en.bt, .int .i64 en.ac, .string en.tx]] w' fun e w'' => e = .returned (.int .i64 (plE A en : Nat)) ∧ Below w'.heap.size w' w'') := fun en w' hb => placeOfEntry_any A ao ac en w' (ha.below hb) (by omega)
  clear ho ha
  obtain ⟨M, hMe⟩ : ∃ M, M = mgF A O 0 := ⟨_, rfl⟩
  have HM : Hid (M = mgF A O 0) := hMe
  rw [← hMe] at hM ⊢
  clear hMe
  go_enter Tryz.func93, Tryz.ntmps93
  go_wp2_with fail
  go_loopw [5, 6, 12] (fun v nx x wr => ∃ (i n : Nat) (T : List En), x = .int .i64 i ∧ nx = .int .i64 n ∧ i ≤ O.length ∧ n ≤ A.length ∧ ERow wr w.heap.size v T ∧ Hid (M = T ++ mgF A (O.drop i) n) ∧ Below w.heap.size w wr) (fun _ _ x _ => O.length - (intOf x).toNat)
  case atStart => exact ⟨0, 0, [], rfl, rfl, Nat.zero_le _, Nat.zero_le _, ERow.nil _ _, HM, Below.refl _ _⟩
  case round =>
    clear HM
    obtain ⟨i, n, T, rfl, rfl, hil, hnA, hrow, H, hbel⟩ := hrel
    obtain ⟨to, tc, rfl⟩ := ownsRow_shape hrow
    have hz := hbel.size
    have hTl : T.length ≤ 256 := by have := congrArg List.length H.out; rw [List.length_append] at this; omega
    by_cases hlt : i < O.length
    · obtain ⟨rk, rfl, bz2, c0, c1, c2⟩ := HO.out.below hbel i hlt
      have hdr : O.drop i = O[i] :: O.drop (i + 1) := List.drop_eq_getElem_cons hlt
      rw [hdr] at H
      generalize O[i] = r at *
      clear hdr
      have HPE : Hid (∀ w', Below w.heap.size w w' → Calls Tryz.prog 112 #[.slice ao A.length ac, .agg #[.string r.bt, .int .i64 r.ac, .string r.tx]] w' fun e w'' => e = .returned (.int .i64 (plE A r : Nat)) ∧ Below w'.heap.size w' w'') := HP.out r
      have HMG : Hid (mgF A (r :: O.drop (i + 1)) n = if plE A r < A.length then (A.take (plE A r + 1)).drop n ++ mgF A (O.drop (i + 1)) (max n (plE A r + 1)) else r :: mgF A (O.drop (i + 1)) n) := rfl
      have hoE : ∀ {v : Value} {l : List En} {W : World}, ERow W w.heap.size v l → W.ownsRow w.heap.size 63 3 v l.length (enCs l) := fun h => h
      by_cases hp : plE A r < A.length
      · rw [if_pos hp] at HMG
        generalize plE A r = p at *
        obtain ⟨rbt, rac, rtx⟩ := r
        simp only [] at c0 c1 c2 HPE
        have HN0 : Hid (M = (T ++ (A.take (p + 1)).drop n) ++ mgF A (O.drop (i + 1)) (max n (p + 1))) := by show _ = _; rw [H.out, HMG.out, List.append_assoc]
        clear H HMG
        go_wp2_with (go_at_call 112; refine (HPE.out _ (hbel.alloc hz _)).mono ?_; rintro e w1 ⟨rfl, hb1⟩; have hbw1 : Below w.heap.size w w1 := (hbel.alloc hz _).trans (hb1.mono (by simp; omega)))
        have hr1 : ERow w1 w.heap.size (.slice to T.length tc) T := ERow.below (ERow.below hrow (below_alloc _ _)) hb1
        rw [show decide (A.length ≤ p) = false from decide_eq_false (by omega)]
        go_loopw [5, 6] (fun v nx wr => ∃ (m : Nat) (S : List En), nx = .int .i64 m ∧ n ≤ m ∧ m ≤ max n (p + 1) ∧ ERow wr w.heap.size v S ∧ Hid (S = T ++ (A.take m).drop n) ∧ Below w.heap.size w wr) (fun _ nx _ => max n (p + 1) - (intOf nx).toNat)
        case atStart => exact ⟨n, T, rfl, Nat.le_refl _, by omega, hr1, by show _ = _; rw [List.drop_eq_nil_of_le (by rw [List.length_take]; omega), List.append_nil], hbw1⟩
        case round =>
          clear c0 c1 c2 HPE hr1 hbw1 hb1
          obtain ⟨m, S, rfl, hnm, hmp, hrowS, HS, hbS⟩ := hrel
          obtain ⟨so, sc, rfl⟩ := ownsRow_shape hrowS
          have hzS := hbS.size
          by_cases hle : m ≤ p
          · have hmA : m < A.length := by omega
            obtain ⟨rk', rfl, bz3, d0, d1, d2⟩ := HA.out.below hbS m hmA
            have HT2 : Hid (S ++ [A[m]] = T ++ (A.take (m + 1)).drop n) := by show _ = _; rw [HS.out, take_drop_step hmA hnm, List.append_assoc]
            have hSl : S.length ≤ 256 := by
              have h3 := congrArg List.length HN0.out
              have h4 := congrArg List.length HS.out
              simp only [List.length_append, List.length_drop, List.length_take] at h3 h4
              omega
            generalize A[m] = q at *
            obtain ⟨qbt, qac, qtx⟩ := q
            simp only [] at d0 d1 d2
            clear HS
            go_wp2_with (at_builtin; refine wpList_append_own _ rfl _ _ 53 rfl w.heap.size 63 i0 _ 3 40 Tryz.underlying53 hi hz0 hz1 hz2 rfl (by decide) (.slice so S.length sc) S.length (enCs S) rfl ((hoE hrowS).alloc _) ⟨wr.heap.size, 0, none⟩ 1 1 (enC ⟨qbt, qac, qtx⟩) rfl rfl (World.news_of_block (heap_alloc_new wr _)) (enC_one _) (by unfold maxLen; omega) (by omega) (by simp; omega) ?_; intro v' w4 hown hgrow _; obtain ⟨ao', cap', rfl⟩ := ownsRow_shape hown)
            go_roundw
            case rel => exact ⟨m + 1, _, by go_num, by omega, by omega, ERow.snoc hown, HT2, (hbS.alloc hzS _).grown hgrow (by simp; omega) (fun k hk => (World.ownsRow.lt (hoE hrowS) k hk).1)⟩
            case measure => simp [intOf]; omega
          · have hm : m = max n (p + 1) := by omega
            have HN : Hid (M = S ++ mgF A (O.drop (i + 1)) m) := by
              show _ = _
              rw [HS.out, HN0.out, hm]
              congr 2
              by_cases hnp : n ≤ p + 1
              · rw [show max n (p + 1) = p + 1 by omega]
              · rw [show max n (p + 1) = n by omega, List.drop_eq_nil_of_le (by rw [List.length_take]; omega), List.drop_eq_nil_of_le (by rw [List.length_take]; omega)]
            clear HS hm HN0
            go_wp2_with fail
            go_roundw
            case rel => exact ⟨i + 1, m, S, by go_num, rfl, by omega, by omega, hrowS, HN, hbS⟩
            case measure => simp [intOf]; omega
      · rw [if_neg hp] at HMG
        have hp2 : A.length ≤ plE A r := by omega
        generalize plE A r = p at *
        have HN : Hid (M = (T ++ [r]) ++ mgF A (O.drop (i + 1)) n) := by show _ = _; rw [H.out, HMG.out, List.append_assoc]; rfl
        obtain ⟨rbt, rac, rtx⟩ := r
        simp only [] at c0 c1 c2 HPE
        clear H HMG hp
        go_wp2_with (first
          | (go_at_call 112; refine (HPE.out _ (hbel.alloc hz _)).mono ?_; rintro e w1 ⟨rfl, hb1⟩; have hbw1 : Below w.heap.size w w1 := (hbel.alloc hz _).trans (hb1.mono (by simp; omega)); have hr1 : ERow w1 w.heap.size (.slice to T.length tc) T := ERow.below (ERow.below hrow (below_alloc _ _)) hb1; obtain ⟨x0, x1, x2, xz⟩ := cells_three hb1; have hz1' := hbw1.size)
          | (at_builtin; refine wpList_append_own _ rfl _ _ 53 rfl w.heap.size 63 i0 _ 3 40 Tryz.underlying53 hi hz0 hz1 hz2 rfl (by decide) (.slice to T.length tc) T.length (enCs T) rfl ((hoE hr1).alloc _) ⟨w1.heap.size, 0, none⟩ 1 1 (enC ⟨rbt, rac, rtx⟩) rfl rfl (World.news_of_block (heap_alloc_new w1 _)) (enC_one _) (by unfold maxLen; omega) (by omega) (by simp; omega) ?_; intro v' w4 hown hgrow _; obtain ⟨ao', cap', rfl⟩ := ownsRow_shape hown))
        go_roundw
        case rel => exact ⟨i + 1, n, _, by go_num, rfl, by omega, by omega, ERow.snoc hown, HN, (hbw1.alloc hz1' _).grown hgrow (by simp; omega) (fun k hk => (World.ownsRow.lt (hoE hr1) k hk).1)⟩
        case measure => simp [intOf]; omega
    · have HN0 : Hid (M = T ++ A.drop n) := by show _ = _; rw [H.out, List.drop_of_length_le (by omega)]; rfl
      clear H
      go_wp2_with fail
      go_loopw [5, 6] (fun v nx wr => ∃ (m : Nat) (S : List En), nx = .int .i64 m ∧ m ≤ A.length ∧ ERow wr w.heap.size v S ∧ Hid (M = S ++ A.drop m) ∧ Below w.heap.size w wr) (fun _ nx _ => A.length - (intOf nx).toNat)
      case atStart => exact ⟨n, T, rfl, hnA, hrow, HN0, hbel⟩
      case round =>
        clear HN0 hrow hTl
        obtain ⟨m, S, rfl, hmA, hrowS, HS, hbS⟩ := hrel
        obtain ⟨so, sc, rfl⟩ := ownsRow_shape hrowS
        have hoE : ∀ {v : Value} {l : List En} {W : World}, ERow W w.heap.size v l → W.ownsRow w.heap.size 63 3 v l.length (enCs l) := fun h => h
        have hzS := hbS.size
        by_cases hlt' : m < A.length
        · obtain ⟨rk', rfl, bz3, d0, d1, d2⟩ := HA.out.below hbS m hlt'
          have hSl : S.length ≤ 256 := by have := congrArg List.length HS.out; rw [List.length_append] at this; omega
          have HT2 : Hid (M = (S ++ [A[m]]) ++ A.drop (m + 1)) := by show _ = _; rw [HS.out, List.append_assoc, List.drop_eq_getElem_cons hlt']; rfl
          generalize A[m] = q at *
          obtain ⟨qbt, qac, qtx⟩ := q
          simp only [] at d0 d1 d2
          clear HS
          go_wp2_with (at_builtin; refine wpList_append_own _ rfl _ _ 53 rfl w.heap.size 63 i0 _ 3 40 Tryz.underlying53 hi hz0 hz1 hz2 rfl (by decide) (.slice so S.length sc) S.length (enCs S) rfl ((hoE hrowS).alloc _) ⟨wr.heap.size, 0, none⟩ 1 1 (enC ⟨qbt, qac, qtx⟩) rfl rfl (World.news_of_block (heap_alloc_new wr _)) (enC_one _) (by unfold maxLen; omega) (by omega) (by simp; omega) ?_; intro v' w4 hown hgrow _; obtain ⟨ao', cap', rfl⟩ := ownsRow_shape hown)
          go_roundw
          case rel => exact ⟨m + 1, _, by go_num, by omega, ERow.snoc hown, HT2, (hbS.alloc hzS _).grown hgrow (by simp; omega) (fun k hk => (World.ownsRow.lt (hoE hrowS) k hk).1)⟩
          case measure => simp [intOf]; omega
        · have HF : Hid (M = S) := by show _ = _; rw [HS.out, List.drop_of_length_le (by omega), List.append_nil]
          clear HS
          go_wp2_with fail
          go_ret
          exact ⟨⟨_, rfl, by rw [HF.out]; exact hrowS⟩, hbS⟩
end Go.Proofs.YtgkiknfpcbcnnaaGreat
