import Derived.Test.YtgkiknfpcbcnnaaGreatBta
import Derived.Laws.AppendOwnNone
import Derived.Test.YtgkiknfpcbcnnaaGreatTda
import Derived.BigQuiet
import Derived.Test.YtgkiknfpcbcnnaaGreatGah
import Derived.Test.YtgkiknfpcbcnnaaGreatTba
import Derived.Deep.RegionHeldLaw
import Derived.Deep.AppendLies
namespace Go.Proofs.YtgkiknfpcbcnnaaGreat
open Go.RowKit
set_option maxRecDepth 20000
set_option maxHeartbeats 1600000 in
theorem rdone_in (T : List En) (en : En) (p : Nat) (g c B : Nat) (w : World) (h : ERow w B (.slice (some ⟨g, 0, none⟩) T.length c) T) (hp : p ≤ T.length) (h256 : T.length ≤ 256) :
    Calls Tryz.prog 72 #[.slice (some ⟨g, 0, none⟩) T.length c, .agg #[.int .i64 1, .int .i64 (p : Int), .string en.bt, .int .i64 en.ac, .string en.tx]] w fun e w' => (∃ v', e = .returned (.tuple #[v', .bool true]) ∧ ERow w' w.heap.size v' (T.take p ++ en :: T.drop p)) ∧ Below w.heap.size w w' := by
  obtain ⟨i0, hi, hz0, hz1, hz2⟩ := info_parts infoEntry
  have HE : Hid (ERow w B (.slice (some ⟨g, 0, none⟩) T.length c) T) := h
  have hgz := (World.ownsRow.lt h g rfl).2
  have hcap : T.length ≤ c := by
    rcases h.2 with ⟨he, _⟩ | ⟨g', c', cur, hv, _, hh, hnc, _⟩
    · simp at he
    · simp only [Value.slice.injEq] at hv
      rw [hv.2.2]; exact hnc
  have hcm : c ≤ 9223372036854775807 := by
    rcases h.2 with ⟨he, _⟩ | ⟨g', c', cur, hv, _, hh, hnc, hml, _⟩
    · simp at he
    · simp only [Value.slice.injEq] at hv
      rw [hv.2.2]; unfold maxLen at hml; omega
  clear h
  have d1 : decide (p ≤ T.length) = true := by simpa using hp
  have ip : (p : Int) ≤ (T.length : Int) := by omega
  have ic : (p : Int) ≤ (c : Int) := by omega
  go_enter Tryz.func72, Tryz.ntmps72
  have HW : Hid (∀ {W : World}, Below w.heap.size w W → ERow W B (.slice (some ⟨g, 0, none⟩) T.length c) T) := fun hW => HE.out.same (fun b hb => hW.block b (World.ownsRow.lt HE.out b hb).2)
  have hoE : ∀ {v : Value} {l : List En} {W : World} {B : Nat}, ERow W B v l → W.ownsRow B 63 3 v l.length (enCs l) := fun h => h
  obtain ⟨wA, hwA⟩ : ∃ wA, wA = w.alloc (.cells #[.int .i64 1, .int .i64 (p : Int), .string en.bt, .int .i64 en.ac, .string en.tx] 66) := ⟨_, rfl⟩
  have HWA : Hid (wA = w.alloc (.cells #[.int .i64 1, .int .i64 (p : Int), .string en.bt, .int .i64 en.ac, .string en.tx] 66)) := hwA
  have hbA : Below w.heap.size w wA := by rw [hwA]; exact below_alloc _ _
  have hvA : wA.heap[w.heap.size]? = some (.cells #[.int .i64 1, .int .i64 (p : Int), .string en.bt, .int .i64 en.ac, .string en.tx] 66 (0, 0)) := by rw [hwA]; exact heap_alloc_new w _
  have hzA := lt_of_block hvA
  clear hwA
  have htl : (T.take p).length = p := by rw [List.length_take]; omega
  have HT1 : Hid (∀ {W : World}, Below w.heap.size w W → ∀ (j : Nat) (u : Value), (enCs (T.take p))[j]? = some u → W.cell? (Addr.add ⟨g, 0, none⟩ j) = some u) := fun hW j u hu => by
    have := piece (HW.out hW) 0 p j u (by rw [List.drop_zero]; exact hu)
    rw [Nat.zero_mul] at this
    exact this
  have HT2 : Hid (∀ {W : World}, Below w.heap.size w W → ∀ (j : Nat) (u : Value), (enCs (T.drop p))[j]? = some u → W.cell? (Addr.add ⟨g, p * 3, none⟩ j) = some u) := fun hW j u hu => by
    have := piece (HW.out hW) p (T.length - p) j u (by rw [List.take_of_length_le (by rw [List.length_drop]; exact Nat.le_refl _)]; exact hu)
    exact this
  have hl1 : (enCs (T.take p)).length = p * 3 := by rw [enCs_len, htl]
  have hl2 : (enCs (T.drop p)).length = (T.length - p) * 3 := by rw [enCs_len, List.length_drop]
  have HL1 : Hid ((enCs (T.take p)).length = p * 3) := hl1
  have HL2 : Hid ((enCs (T.drop p)).length = (T.length - p) * 3) := hl2
  have HTL : Hid ((T.take p).length = p) := htl
  clear htl hl1 hl2
  go_upto_region 4 with (at_builtin; rw [← HWA.out]; refine wpList_append_own _ rfl _ _ 53 rfl wA.heap.size 63 i0 _ 3 40 Tryz.underlying53 hi hz0 hz1 hz2 rfl (by decide) (.slice none 0 0) 0 [] rfl (World.ownsRow_nil _ _ _ _) ⟨g, 0, none⟩ p c (enCs (T.take p)) rfl HL1.out (HT1.out hbA) (enCs_one _) (by unfold maxLen; omega) (by omega) (Nat.le_refl _) ?_; intro v1 w1 hown1 hgrow1 _; rw [Nat.zero_add, List.nil_append] at hown1)
  have hr1 : ERow w1 wA.heap.size v1 (T.take p) := by unfold ERow; rw [HTL.out]; exact hown1
  obtain ⟨o1, c1, rfl⟩ := ownsRow_shape hr1
  rw [HTL.out] at hr1
  rw [HTL.out]
  have hb1 : Below wA.heap.size wA w1 := (Below.refl _ _).grown hgrow1 (Nat.le_refl _) (fun k hk => by simp [Value.ownBlock] at hk)
  have hbw1 : Below w.heap.size w w1 := hbA.trans (hb1.mono hbA.size)
  have hv1 := (hb1.block _ hzA).trans hvA
  have f2 := cell_of_row w1 w.heap.size 2 _ _ _ hv1
  have f3 := cell_of_row w1 w.heap.size 3 _ _ _ hv1
  have f4 := cell_of_row w1 w.heap.size 4 _ _ _ hv1
  have hz1' := hb1.size
  have HR1 : Hid (w1.ownsRow wA.heap.size 63 3 (.slice o1 p c1) p (enCs (T.take p))) := by
    show World.ownsRow _ _ _ _ _ _ _
    have := hoE hr1
    rw [HTL.out] at this
    exact this
  clear hown1 hgrow1 hr1
  go_upto_region 5 with (at_builtin; refine wpList_append_own _ rfl _ _ 53 rfl wA.heap.size 63 i0 _ 3 40 Tryz.underlying53 hi hz0 hz1 hz2 rfl (by decide) (.slice o1 p c1) p (enCs (T.take p)) rfl (HR1.out.alloc _) ⟨w1.heap.size, 0, none⟩ 1 1 (enC en) rfl rfl (World.news_of_block (heap_alloc_new w1 _)) (enC_one _) (by unfold maxLen; omega) (by omega) (by simp; omega) ?_; intro v2 w2 hown2 hgrow2 _)
  obtain ⟨o2, c2, rfl⟩ := ownsRow_shape hown2
  have hb2 : Below wA.heap.size wA w2 := (hb1.alloc hz1' _).grown hgrow2 (by simp; omega) (fun k hk => (World.ownsRow.lt HR1.out k hk).1)
  have hbw2 : Below w.heap.size w w2 := hbA.trans (hb2.mono hbA.size)
  have hv2 := (hb2.block _ hzA).trans hvA
  have g1 := cell_of_row w2 w.heap.size 1 _ _ _ hv2
  have hz2' := hb2.size
  have HR2 : Hid (w2.ownsRow wA.heap.size 63 3 (.slice o2 (p + 1) c2) (p + 1) (enCs (T.take p) ++ enC en)) := hown2
  clear hown2 hgrow2 HR1 f2 f3 f4 hv1 hv2
  have HSM : Hid (enCs (T.take p ++ en :: T.drop p) = (enCs (T.take p) ++ enC en) ++ enCs (T.drop p)) := by
    show _ = _
    rw [enCs_app]
    rw [show enCs (en :: T.drop p) = enC en ++ enCs (T.drop p) from rfl, List.append_assoc]
  have HSL : Hid ((T.take p ++ en :: T.drop p).length = (p + 1) + (T.length - p)) := by
    show _ = _
    rw [List.length_append, List.length_cons, List.length_take, List.length_drop]
    omega
  by_cases hcp : c = p
  · have htp : T.length = p := by omega
    have hdn : T.drop p = [] := List.drop_of_length_le (by omega)
    have HL3 : Hid ((enCs (T.drop p)).length = (T.length - p) * 3 ∧ ∀ (j : Nat) (u : Value), (enCs (T.drop p))[j]? = some u → w2.cell? (Addr.add ⟨g, 0, none⟩ j) = some u) := ⟨HL2.out, fun j u hu => by rw [hdn] at hu; simp [enCs] at hu⟩
    have h9 : c - p = 0 := by omega
    clear htp hdn hcp
    go_wp2_with (at_builtin; refine wpList_append_own _ rfl _ _ 53 rfl wA.heap.size 63 i0 _ 3 40 Tryz.underlying53 hi hz0 hz1 hz2 rfl (by decide) (.slice o2 (p + 1) c2) (p + 1) (enCs (T.take p) ++ enC en) rfl HR2.out ⟨g, 0, none⟩ (T.length - p) 0 (enCs (T.drop p)) rfl HL3.out.1 HL3.out.2 (enCs_one _) (by unfold maxLen; omega) (by omega) hz2' ?_; intro v3 w3 hown3 hgrow3 _; obtain ⟨o3, c3, rfl⟩ := ownsRow_shape hown3)
    go_ret2
    have hb3 : Below wA.heap.size wA w3 := hb2.grown hgrow3 (by omega) (fun k hk => (World.ownsRow.lt HR2.out k hk).1)
    refine ⟨⟨_, rfl, ?_⟩, hbA.trans (hb3.mono hbA.size)⟩
    unfold ERow
    rw [HSM.out, HSL.out]
    exact ownsRow_base hown3 hbA.size
  · have h9 : ¬ c - p = 0 := by omega
    clear hcp
    go_wp2_with (at_builtin; refine wpList_append_own _ rfl _ _ 53 rfl wA.heap.size 63 i0 _ 3 40 Tryz.underlying53 hi hz0 hz1 hz2 rfl (by decide) (.slice o2 (p + 1) c2) (p + 1) (enCs (T.take p) ++ enC en) rfl HR2.out ⟨g, p * 3, none⟩ (T.length - p) (c - p) (enCs (T.drop p)) rfl HL2.out (HT2.out hbw2) (enCs_one _) (by unfold maxLen; omega) (by omega) hz2' ?_; intro v3 w3 hown3 hgrow3 _; obtain ⟨o3, c3, rfl⟩ := ownsRow_shape hown3)
    go_ret2
    have hb3 : Below wA.heap.size wA w3 := hb2.grown hgrow3 (by omega) (fun k hk => (World.ownsRow.lt HR2.out k hk).1)
    refine ⟨⟨_, rfl, ?_⟩, hbA.trans (hb3.mono hbA.size)⟩
    unfold ERow
    rw [HSM.out, HSL.out]
    exact ownsRow_base hown3 hbA.size
set_option maxHeartbeats 1600000 in
theorem rdone_out (T : List En) (p : Nat) (g c B : Nat) (w : World) (h : ERow w B (.slice (some ⟨g, 0, none⟩) T.length c) T) (hp : p < T.length) (h256 : T.length ≤ 256) :
    Calls Tryz.prog 72 #[.slice (some ⟨g, 0, none⟩) T.length c, .agg #[.int .i64 2, .int .i64 (p : Int), .string ⟨#[]⟩, .int .i64 0, .string ⟨#[]⟩]] w fun e w' => (∃ v', e = .returned (.tuple #[v', .bool true]) ∧ ERow w' w.heap.size v' (T.take p ++ T.drop (p + 1))) ∧ Below w.heap.size w w' := by
  obtain ⟨i0, hi, hz0, hz1, hz2⟩ := info_parts infoEntry
  have HE : Hid (ERow w B (.slice (some ⟨g, 0, none⟩) T.length c) T) := h
  have hgz := (World.ownsRow.lt h g rfl).2
  have hcap : T.length ≤ c := by
    rcases h.2 with ⟨he, _⟩ | ⟨g', c', cur, hv, _, hh, hnc, _⟩
    · simp at he
    · simp only [Value.slice.injEq] at hv
      rw [hv.2.2]; exact hnc
  have hcm : c ≤ 9223372036854775807 := by
    rcases h.2 with ⟨he, _⟩ | ⟨g', c', cur, hv, _, hh, hnc, hml, _⟩
    · simp at he
    · simp only [Value.slice.injEq] at hv
      rw [hv.2.2]; unfold maxLen at hml; omega
  clear h
  have d1 : decide (p < T.length) = true := by simpa using hp
  have ip : (p : Int) < (T.length : Int) := by omega
  have ic : (p : Int) + 1 ≤ (c : Int) := by omega
  go_enter Tryz.func72, Tryz.ntmps72
  have HW : Hid (∀ {W : World}, Below w.heap.size w W → ERow W B (.slice (some ⟨g, 0, none⟩) T.length c) T) := fun hW => HE.out.same (fun b hb => hW.block b (World.ownsRow.lt HE.out b hb).2)
  have hoE : ∀ {v : Value} {l : List En} {W : World} {B : Nat}, ERow W B v l → W.ownsRow B 63 3 v l.length (enCs l) := fun h => h
  obtain ⟨wA, hwA⟩ : ∃ wA, wA = w.alloc (.cells #[.int .i64 2, .int .i64 (p : Int), .string ⟨#[]⟩, .int .i64 0, .string ⟨#[]⟩] 66) := ⟨_, rfl⟩
  have HWA : Hid (wA = w.alloc (.cells #[.int .i64 2, .int .i64 (p : Int), .string ⟨#[]⟩, .int .i64 0, .string ⟨#[]⟩] 66)) := hwA
  have hbA : Below w.heap.size w wA := by rw [hwA]; exact below_alloc _ _
  have hvA : wA.heap[w.heap.size]? = some (.cells #[.int .i64 2, .int .i64 (p : Int), .string ⟨#[]⟩, .int .i64 0, .string ⟨#[]⟩] 66 (0, 0)) := by rw [hwA]; exact heap_alloc_new w _
  have hzA := lt_of_block hvA
  clear hwA
  have htl : (T.take p).length = p := by rw [List.length_take]; omega
  have HT1 : Hid (∀ {W : World}, Below w.heap.size w W → ∀ (j : Nat) (u : Value), (enCs (T.take p))[j]? = some u → W.cell? (Addr.add ⟨g, 0, none⟩ j) = some u) := fun hW j u hu => by
    have := piece (HW.out hW) 0 p j u (by rw [List.drop_zero]; exact hu)
    rw [Nat.zero_mul] at this
    exact this
  have HT2 : Hid (∀ {W : World}, Below w.heap.size w W → ∀ (j : Nat) (u : Value), (enCs (T.drop (p + 1)))[j]? = some u → W.cell? (Addr.add ⟨g, (p + 1) * 3, none⟩ j) = some u) := fun hW j u hu => by
    have := piece (HW.out hW) (p + 1) (T.length - (p + 1)) j u (by rw [List.take_of_length_le (by rw [List.length_drop]; exact Nat.le_refl _)]; exact hu)
    exact this
  have hl1 : (enCs (T.take p)).length = p * 3 := by rw [enCs_len, htl]
  have hl2 : (enCs (T.drop (p + 1))).length = (T.length - (p + 1)) * 3 := by rw [enCs_len, List.length_drop]
  have HL1 : Hid ((enCs (T.take p)).length = p * 3) := hl1
  have HL2 : Hid ((enCs (T.drop (p + 1))).length = (T.length - (p + 1)) * 3) := hl2
  have HTL : Hid ((T.take p).length = p) := htl
  clear htl hl1 hl2
  go_upto_region 9 with (at_builtin; rw [← HWA.out]; refine wpList_append_own _ rfl _ _ 53 rfl wA.heap.size 63 i0 _ 3 40 Tryz.underlying53 hi hz0 hz1 hz2 rfl (by decide) (.slice none 0 0) 0 [] rfl (World.ownsRow_nil _ _ _ _) ⟨g, 0, none⟩ p c (enCs (T.take p)) rfl HL1.out (HT1.out hbA) (enCs_one _) (by unfold maxLen; omega) (by omega) (Nat.le_refl _) ?_; intro v1 w1 hown1 hgrow1 _; rw [Nat.zero_add, List.nil_append] at hown1)
  have hr1 : ERow w1 wA.heap.size v1 (T.take p) := by unfold ERow; rw [HTL.out]; exact hown1
  obtain ⟨o1, c1, rfl⟩ := ownsRow_shape hr1
  rw [HTL.out] at hr1
  rw [HTL.out]
  have hb1 : Below wA.heap.size wA w1 := (Below.refl _ _).grown hgrow1 (Nat.le_refl _) (fun k hk => by simp [Value.ownBlock] at hk)
  have hbw1 : Below w.heap.size w w1 := hbA.trans (hb1.mono hbA.size)
  have hv1 := (hb1.block _ hzA).trans hvA
  have f1 := cell_of_row w1 w.heap.size 1 _ _ _ hv1
  have hz1' := hb1.size
  have HR1 : Hid (w1.ownsRow wA.heap.size 63 3 (.slice o1 p c1) p (enCs (T.take p))) := by
    show World.ownsRow _ _ _ _ _ _ _
    have := hoE hr1
    rw [HTL.out] at this
    exact this
  clear hown1 hgrow1 hr1
  have HSM : Hid (enCs (T.take p ++ T.drop (p + 1)) = enCs (T.take p) ++ enCs (T.drop (p + 1))) := enCs_app _ _
  have HSL : Hid ((T.take p ++ T.drop (p + 1)).length = p + (T.length - (p + 1))) := by
    show _ = _
    rw [List.length_append, List.length_take, List.length_drop]
    omega
  by_cases hcp : c = p + 1
  · have htp : T.length = p + 1 := by omega
    have hdn : T.drop (p + 1) = [] := List.drop_of_length_le (by omega)
    have HL3 : Hid ((enCs (T.drop (p + 1))).length = (T.length - (p + 1)) * 3 ∧ ∀ (j : Nat) (u : Value), (enCs (T.drop (p + 1)))[j]? = some u → w1.cell? (Addr.add ⟨g, 0, none⟩ j) = some u) := ⟨HL2.out, fun j u hu => by rw [hdn] at hu; simp [enCs] at hu⟩
    have h9 : c - (p + 1) = 0 := by omega
    clear htp hdn hcp
    go_wp2_with (at_builtin; refine wpList_append_own _ rfl _ _ 53 rfl wA.heap.size 63 i0 _ 3 40 Tryz.underlying53 hi hz0 hz1 hz2 rfl (by decide) (.slice o1 p c1) p (enCs (T.take p)) rfl HR1.out ⟨g, 0, none⟩ (T.length - (p + 1)) 0 (enCs (T.drop (p + 1))) rfl HL3.out.1 HL3.out.2 (enCs_one _) (by unfold maxLen; omega) (by omega) hz1' ?_; intro v3 w3 hown3 hgrow3 _; obtain ⟨o3, c3, rfl⟩ := ownsRow_shape hown3)
    go_ret2
    have hb3 : Below wA.heap.size wA w3 := hb1.grown hgrow3 (by omega) (fun k hk => (World.ownsRow.lt HR1.out k hk).1)
    refine ⟨⟨_, rfl, ?_⟩, hbA.trans (hb3.mono hbA.size)⟩
    unfold ERow
    rw [HSM.out, HSL.out]
    exact ownsRow_base hown3 hbA.size
  · have h9 : ¬ c - (p + 1) = 0 := by omega
    clear hcp
    go_wp2_with (at_builtin; refine wpList_append_own _ rfl _ _ 53 rfl wA.heap.size 63 i0 _ 3 40 Tryz.underlying53 hi hz0 hz1 hz2 rfl (by decide) (.slice o1 p c1) p (enCs (T.take p)) rfl HR1.out ⟨g, (p + 1) * 3, none⟩ (T.length - (p + 1)) (c - (p + 1)) (enCs (T.drop (p + 1))) rfl HL2.out (HT2.out hbw1) (enCs_one _) (by unfold maxLen; omega) (by omega) hz1' ?_; intro v3 w3 hown3 hgrow3 _; obtain ⟨o3, c3, rfl⟩ := ownsRow_shape hown3)
    go_ret2
    have hb3 : Below wA.heap.size wA w3 := hb1.grown hgrow3 (by omega) (fun k hk => (World.ownsRow.lt HR1.out k hk).1)
    refine ⟨⟨_, rfl, ?_⟩, hbA.trans (hb3.mono hbA.size)⟩
    unfold ERow
    rw [HSM.out, HSL.out]
    exact ownsRow_base hown3 hbA.size
set_option maxHeartbeats 800000 in
theorem rdone_nil (en : En) (w : World) :
    Calls Tryz.prog 72 #[.slice none 0 0, .agg #[.int .i64 1, .int .i64 0, .string en.bt, .int .i64 en.ac, .string en.tx]] w fun e w' => (∃ v', e = .returned (.tuple #[v', .bool true]) ∧ ERow w' w.heap.size v' [en]) ∧ Below w.heap.size w w' := by
  obtain ⟨i0, hi, hz0, hz1, hz2⟩ := info_parts infoEntry
  obtain ⟨wA, hwA⟩ : ∃ wA, wA = w.alloc (.cells #[.int .i64 1, .int .i64 0, .string en.bt, .int .i64 en.ac, .string en.tx] 66) := ⟨_, rfl⟩
  have HWA : Hid (wA = w.alloc (.cells #[.int .i64 1, .int .i64 0, .string en.bt, .int .i64 en.ac, .string en.tx] 66)) := hwA
  have hbA : Below w.heap.size w wA := by rw [hwA]; exact below_alloc _ _
  have hvA : wA.heap[w.heap.size]? = some (.cells #[.int .i64 1, .int .i64 0, .string en.bt, .int .i64 en.ac, .string en.tx] 66 (0, 0)) := by rw [hwA]; exact heap_alloc_new w _
  have hzA := lt_of_block hvA
  clear hwA
  go_enter Tryz.func72, Tryz.ntmps72
  go_upto_region 4 with (at_builtin; refine wpList_append_own_none rfl _ _ 53 rfl 0 63 i0 3 Tryz.underlying53 hi (.slice none 0 0) 0 [] rfl (World.ownsRow_nil _ _ _ _) rfl ?_)
  rw [← HWA.out]
  have f2 := cell_of_row wA w.heap.size 2 _ _ _ hvA
  have f3 := cell_of_row wA w.heap.size 3 _ _ _ hvA
  have f4 := cell_of_row wA w.heap.size 4 _ _ _ hvA
  go_upto_region 5 with (at_builtin; refine wpList_append_own _ rfl _ _ 53 rfl wA.heap.size 63 i0 _ 3 40 Tryz.underlying53 hi hz0 hz1 hz2 rfl (by decide) (.slice none 0 0) 0 [] rfl (World.ownsRow_nil _ _ _ _) ⟨wA.heap.size, 0, none⟩ 1 1 (enC en) rfl rfl (World.news_of_block (heap_alloc_new wA _)) (enC_one _) (by unfold maxLen; omega) (by omega) (by simp) ?_; intro v2 w2 hown2 hgrow2 _)
  obtain ⟨o2, c2, rfl⟩ := ownsRow_shape hown2
  have hb2 : Below wA.heap.size wA w2 := ((Below.refl _ _).alloc (Nat.le_refl _) _).grown hgrow2 (by simp) (fun k hk => by simp [Value.ownBlock] at hk)
  have hv2 := (hb2.block _ hzA).trans hvA
  have g1 := cell_of_row w2 w.heap.size 1 _ _ _ hv2
  have HR2 : Hid (w2.ownsRow wA.heap.size 63 3 (.slice o2 1 c2) 1 (enC en)) := hown2
  clear hown2 hgrow2 f2 f3 f4 hv2
  go_wp2_with (at_builtin; refine wpList_append_own_none rfl _ _ 53 rfl wA.heap.size 63 i0 3 Tryz.underlying53 hi (.slice o2 1 c2) 1 (enC en) rfl HR2.out rfl ?_)
  go_ret2
  refine ⟨⟨_, rfl, ?_⟩, hbA.trans (hb2.mono hbA.size)⟩
  exact ownsRow_base HR2.out hbA.size
theorem refDone_any (T T' : List En) (x : Wr) (v : Value) (B : Nat) (w : World) (h : ERow w B v T) (hd : doW T x = some T') (h256 : T.length ≤ 256) :
    Calls Tryz.prog 72 #[v, .agg #[.int .i64 x.kd, .int .i64 x.pl, .string x.en.bt, .int .i64 x.en.ac, .string x.en.tx]] w fun e w' => (∃ v', e = .returned (.tuple #[v', .bool true]) ∧ ERow w' w.heap.size v' T') ∧ Below w.heap.size w w' := by
  obtain ⟨kd, pl, en⟩ := x
  unfold doW at hd
  simp only [] at hd ⊢
  split at hd
  · rename_i hk
    obtain ⟨rfl, h0, h1⟩ := hk
    obtain ⟨p, rfl⟩ := Int.eq_ofNat_of_zero_le h0
    simp only [Int.toNat_natCast, Option.some.injEq] at hd
    subst hd
    rcases h.2 with ⟨rfl, h3⟩ | ⟨g, c, cur, rfl, _⟩
    · obtain rfl : T = [] := List.length_eq_zero_iff.1 h3
      obtain rfl : p = 0 := by simp at h1; omega
      exact rdone_nil en w
    · exact rdone_in T en p g c B w h (by omega) h256
  · split at hd
    · rename_i hk
      obtain ⟨rfl, h0, h1, h2⟩ := hk
      obtain ⟨p, rfl⟩ := Int.eq_ofNat_of_zero_le h0
      simp only [Int.toNat_natCast, Option.some.injEq] at hd
      subst hd
      obtain rfl := (enEq_iff _ _).1 h2
      rcases h.2 with ⟨rfl, h3⟩ | ⟨g, c, cur, rfl, _⟩
      · omega
      · exact rdone_out T p g c B w h (by omega) h256
    · cases hd
end Go.Proofs.YtgkiknfpcbcnnaaGreat
namespace Go.Proofs.YtgkiknfpcbcnnaaGreat
open Go.RowKit
set_option maxRecDepth 20000
def hdV (h : Hd) : Value := .agg #[.int .i64 h.ds, .int .i64 h.sr, .int .i64 h.pr, .int .i64 h.po, .int .i64 h.fl, .bool h.la]
set_option maxHeartbeats 2000000 in
theorem refTurned_any (O A : List En) (ws : List Wr) (oo ao wo : Option Addr) (oc ac wc B1 B2 B3 : Nat) (h : Hd) (w : World) (hh : Hd64 h) (ho : ERow w B1 (.slice oo O.length oc) O) (ha : ERow w B2 (.slice ao A.length ac) A) (hw : WRow w B3 (.slice wo ws.length wc) ws) (hok : WrOK O A ws) :
    Calls Tryz.prog 47 #[.slice oo O.length oc, .slice ao A.length ac, .slice wo ws.length wc, hdV h] w fun e w' => e = .returned (.bool true) ∧ Below w.heap.size w w' := by
  obtain ⟨hnum, hsm, Ts, hT0, hTn, hTs, hTb⟩ := hok
  have HTS : Hid (∀ i (h : i < ws.length), doW (Ts i) ws[i] = some (Ts (i + 1))) := hTs
  have HTB : Hid (∀ i, i ≤ ws.length → (Ts i).length ≤ 256 ∧ ∀ f : En → Bool, (Ts i).find? f = O.find? f ∨ (Ts i).find? f = A.find? f) := hTb
  have HT0 : Hid (Ts 0 = O) := hT0
  have HTN : Hid (Ts ws.length = A) := hTn
  have hOl : O.length ≤ 256 := by rw [← hT0]; exact (hTb 0 (Nat.zero_le _)).1
  have hAl : A.length ≤ 256 := by rw [← hTn]; exact (hTb _ (Nat.le_refl _)).1
  have HNM : Hid (ws.length = lacks O A + lacks A O) := hnum
  have HOR : Hid (ERow w B1 (.slice oo O.length oc) O) := ho
  have HEO : Hid (EnIn w oo O) := EnIn.of ho
  have HEA : Hid (EnIn w ao A) := EnIn.of ha
  have HWS : Hid (∀ {W : World}, Below w.heap.size w W → ∀ i (hi : i < ws.length), ∃ g, wo = some ⟨g, 0, none⟩ ∧ W.cell? ⟨g, i * 5, none⟩ = some (.int .i64 ws[i].kd) ∧ W.cell? ⟨g, i * 5 + 1, none⟩ = some (.int .i64 ws[i].pl) ∧ W.cell? ⟨g, i * 5 + 2, none⟩ = some (.string ws[i].en.bt) ∧ W.cell? ⟨g, i * 5 + 3, none⟩ = some (.int .i64 ws[i].en.ac) ∧ W.cell? ⟨g, i * 5 + 4, none⟩ = some (.string ws[i].en.tx)) := fun {W} hW i hi => by
    obtain ⟨g, e, hg, hc⟩ := hw.get (by omega)
    obtain ⟨q0, q1, q2, q3, q4⟩ := hc i hi
    exact ⟨g, e, (hW.cell (p := ⟨g, i * 5, none⟩) hg).trans q0, (hW.cell (p := ⟨g, i * 5 + 1, none⟩) hg).trans q1, (hW.cell (p := ⟨g, i * 5 + 2, none⟩) hg).trans q2, (hW.cell (p := ⟨g, i * 5 + 3, none⟩) hg).trans q3, (hW.cell (p := ⟨g, i * 5 + 4, none⟩) hg).trans q4⟩
  clear hw ho ha hnum hT0 hTn hTs hTb
  have HLK0 : Hid (∀ (V : World), Below w.heap.size w V → Calls Tryz.prog 71 #[.slice oo O.length oc, .slice ao A.length ac] V fun e w' => e = .returned (.int .i64 (lacks O A : Nat)) ∧ ∃ n, w' = V.drewN n) := fun V hV => refLacking_any O A oo ao oc ac V (HEO.out.below hV) (HEA.out.below hV) hOl hAl
  have HLK1 : Hid (∀ (V : World), Below w.heap.size w V → Calls Tryz.prog 71 #[.slice ao A.length ac, .slice oo O.length oc] V fun e w' => e = .returned (.int .i64 (lacks A O : Nat)) ∧ ∃ n, w' = V.drewN n) := fun V hV => refLacking_any A O ao oo ac oc V (HEA.out.below hV) (HEO.out.below hV) hAl hOl
  have HHK : Hid (∀ V, Calls Tryz.prog 62 #[.agg #[.int .i64 h.ds, .int .i64 h.sr, .int .i64 h.pr, .int .i64 h.po, .int .i64 h.fl, .bool h.la]] V fun e w' => e = .returned (.bool (hdOK h)) ∧ Below V.heap.size V w') := fun V => headerOK_any h V
  have HLO : Hid (∀ (V : World) (T : List En) (to : Option Addr) (tc : Nat), EnIn V to T → T.length ≤ 256 → Calls Tryz.prog 63 #[.slice to T.length tc, .agg #[.int .i64 h.ds, .int .i64 h.sr, .int .i64 h.pr, .int .i64 h.po, .int .i64 h.fl, .bool h.la]] V fun e w' => e = .returned (.int .i64 (firB T (hbZ h))) ∧ Below V.heap.size V w') := fun V T to tc hin hl => refLooked_any T to tc h V hh hin hl
  have HTF : Hid (∀ i, i ≤ ws.length → firB (Ts i) (hbZ h) = firB O (hbZ h) ∨ firB (Ts i) (hbZ h) = firB A (hbZ h)) := fun i hi => by
    unfold firB
    rcases (HTB.out i hi).2 (fun e => fitZ e.bt (hbZ h)) with e | e
    · left; rw [e]
    · right; rw [e]
  have HTL : Hid (∀ i, i ≤ ws.length → (Ts i).length ≤ 256) := fun i hi => (HTB.out i hi).1
  have l1 : lacks O A ≤ 256 := Nat.le_trans List.countP_le_length hOl
  have l2 : lacks A O ≤ 256 := Nat.le_trans List.countP_le_length hAl
  have hne : (((ws.length : Nat) : Int) != (lacks O A : Int) + (lacks A O : Int)) = false := by rw [HNM.out]; simp
  clear hh HTB
  generalize hb0 : firB O (hbZ h) = b0 at *
  generalize ha0 : firB A (hbZ h) = a0 at *
  generalize hk0 : hdOK h = kn at *
  generalize hbZ h = bs at *
  obtain ⟨ds, sr, pr, po, fl, la⟩ := h
  unfold hdV
  simp only [] at HHK HLO ⊢
  clear hk0
  obtain ⟨wA, hwA⟩ : ∃ wA, wA = w.alloc (.cells #[.int .i64 ds, .int .i64 sr, .int .i64 pr, .int .i64 po, .int .i64 fl, .bool la] 41) := ⟨_, rfl⟩
  have HWA : Hid (wA = w.alloc (.cells #[.int .i64 ds, .int .i64 sr, .int .i64 pr, .int .i64 po, .int .i64 fl, .bool la] 41)) := hwA
  have hbA : Below w.heap.size w wA := by rw [hwA]; exact below_alloc _ _
  have hvA : wA.heap[w.heap.size]? = some (.cells #[.int .i64 ds, .int .i64 sr, .int .i64 pr, .int .i64 po, .int .i64 fl, .bool la] 41 (0, 0)) := by rw [hwA]; exact heap_alloc_new w _
  have hzA := lt_of_block hvA
  have HCV : Hid (∀ {W : World}, Below wA.heap.size wA W → W.cell? ⟨w.heap.size, 0, none⟩ = some (.int .i64 ds) ∧ W.cell? ⟨w.heap.size, 1, none⟩ = some (.int .i64 sr) ∧ W.cell? ⟨w.heap.size, 2, none⟩ = some (.int .i64 pr) ∧ W.cell? ⟨w.heap.size, 3, none⟩ = some (.int .i64 po) ∧ W.cell? ⟨w.heap.size, 4, none⟩ = some (.int .i64 fl) ∧ W.cell? ⟨w.heap.size, 5, none⟩ = some (.bool la)) := fun {W} hW => by
    have hv := (hW.block _ hzA).trans hvA
    exact ⟨cell_of_row W w.heap.size 0 _ _ _ hv, cell_of_row W w.heap.size 1 _ _ _ hv, cell_of_row W w.heap.size 2 _ _ _ hv, cell_of_row W w.heap.size 3 _ _ _ hv, cell_of_row W w.heap.size 4 _ _ _ hv, cell_of_row W w.heap.size 5 _ _ _ hv⟩
  clear hwA hvA
  go_enter Tryz.func47, Tryz.ntmps47
  go_wp2_with fail
  rw [← HWA.out]
  refine (HLK0.out wA hbA).mono ?_
  rintro e w1 ⟨rfl, n1, rfl⟩
  have hb1 : Below wA.heap.size wA (wA.drewN n1) := below_drewN (Below.refl _ _) n1
  have hbw1 : Below w.heap.size w (wA.drewN n1) := below_drewN hbA n1
  generalize wA.drewN n1 = w1 at *
  go_wp2_with fail
  refine (HLK1.out w1 hbw1).mono ?_
  rintro e w2 ⟨rfl, n2, rfl⟩
  have hb2 : Below wA.heap.size wA (w1.drewN n2) := below_drewN hb1 n2
  generalize w1.drewN n2 = w2 at *
  obtain ⟨c0, c1, c2, c3, c4, c5⟩ := HCV.out hb2
  clear HLK0 HLK1 hb1 hbw1
  go_wp2_with fail
  refine (HHK.out w2).mono ?_
  rintro e w3 ⟨rfl, hb23⟩
  have hb3 : Below wA.heap.size wA w3 := hb2.trans (hb23.mono hb2.size)
  have hbw3 : Below w.heap.size w w3 := hbA.trans (hb3.mono hbA.size)
  clear c0 c1 c2 c3 c4 c5 hb23
  obtain ⟨c0, c1, c2, c3, c4, c5⟩ := HCV.out hb3
  go_wp2_with fail
  refine (HLO.out w3 O oo oc (HEO.out.below hbw3) hOl).mono ?_
  rintro e w4 ⟨rfl, hb34⟩
  rw [hb0]
  have hb4 : Below wA.heap.size wA w4 := hb3.trans (hb34.mono hb3.size)
  have hbw4 : Below w.heap.size w w4 := hbA.trans (hb4.mono hbA.size)
  clear c0 c1 c2 c3 c4 c5 hb34 hbw3
  obtain ⟨c0, c1, c2, c3, c4, c5⟩ := HCV.out hb4
  go_wp2_with fail
  refine (HLO.out w4 A ao ac (HEA.out.below hbw4) hAl).mono ?_
  rintro e w5 ⟨rfl, hb45⟩
  rw [ha0]
  have hb5 : Below wA.heap.size wA w5 := hb4.trans (hb45.mono hb4.size)
  have hbw5 : Below w.heap.size w w5 := hbA.trans (hb5.mono hbA.size)
  have HRO : Hid (ERow w5 0 (.slice oo (Ts 0).length oc) (Ts 0)) := by
    show ERow _ _ _ _
    rw [HT0.out]
    exact ownsRow_base (HOR.out.same (fun b hb => hbw5.block b (World.ownsRow.lt HOR.out b hb).2)) (Nat.zero_le _)
  clear c0 c1 c2 c3 c4 c5 hb45 hbw4 hb4 hb3 hb2 HHK HOR
  go_wp2_with fail
  go_loopw [12, 13, 14] (fun v12 v13 v14 wr => ∃ (i : Nat) (lo : Option Addr) (lc : Nat), v12 = .slice lo (Ts i).length lc ∧ v13 = .bool true ∧ v14 = .int .i64 i ∧ i ≤ ws.length ∧ Hid (ERow wr 0 (.slice lo (Ts i).length lc) (Ts i)) ∧ Below wA.heap.size wA wr) (fun _ _ v14 _ => ws.length - (intOf v14).toNat)
  case atStart => exact ⟨0, oo, oc, by rw [HT0.out], rfl, rfl, Nat.zero_le _, HRO, hb5⟩
  case round =>
    clear HRO
    obtain ⟨i, lo, lc, rfl, rfl, rfl, hil, HER, hbr⟩ := hrel
    have hzr := hbr.size
    have hbwr : Below w.heap.size w wr := hbA.trans (hbr.mono hbA.size)
    by_cases hlt : i < ws.length
    · obtain ⟨g, rfl, q0, q1, q2, q3, q4⟩ := HWS.out hbwr i hlt
      have hTi := HTL.out i hil
      have hTi1 := HTL.out (i + 1) (by omega)
      have HDN : Hid (Calls Tryz.prog 72 #[.slice lo (Ts i).length lc, .agg #[.int .i64 ws[i].kd, .int .i64 ws[i].pl, .string ws[i].en.bt, .int .i64 ws[i].en.ac, .string ws[i].en.tx]] wr fun e w' => (∃ v', e = .returned (.tuple #[v', .bool true]) ∧ ERow w' wr.heap.size v' (Ts (i + 1))) ∧ Below wr.heap.size wr w') := refDone_any (Ts i) (Ts (i + 1)) ws[i] _ 0 wr HER.out (HTS.out i hlt) hTi
      have hTF := HTF.out (i + 1) (by omega)
      generalize ws[i] = x9 at *
      go_wp2_with fail
      refine HDN.out.mono ?_
      rintro e w2 ⟨⟨v2, rfl, hr2⟩, hb2⟩
      obtain ⟨so, sc, rfl⟩ := ownsRow_shape hr2
      have hb2A : Below wA.heap.size wA w2 := hbr.trans (hb2.mono hzr)
      obtain ⟨c0, c1, c2, c3, c4, c5⟩ := HCV.out hb2A
      go_wp2_with fail
      refine (HLO.out w2 (Ts (i + 1)) so sc (EnIn.of hr2) hTi1).mono ?_
      rintro e w3 ⟨rfl, hb23⟩
      have hb3 : Below wA.heap.size wA w3 := hb2A.trans (hb23.mono hb2A.size)
      have HR3 : Hid (ERow w3 0 (.slice so (Ts (i + 1)).length sc) (Ts (i + 1))) := ownsRow_base (hr2.below hb23) (Nat.zero_le _)
      clear c0 c1 c2 c3 c4 c5 hr2 hb2 hb23 hb2A HDN q0 q1 q2 q3 q4
      generalize firB (Ts (i + 1)) bs = be at *
      cases kn
      · clear hTF
        go_wp2_with fail
        go_roundw
        case rel => exact ⟨i + 1, so, sc, rfl, rfl, by go_num, by omega, HR3, hb3⟩
        case measure => simp [intOf]; omega
      · rcases hTF with rfl | rfl
        · have z1 : (be != be) = false := by simp
          have z2 : decide (be = be) = true := by simp
          go_wp2_with fail
          go_roundw
          case rel => exact ⟨i + 1, so, sc, rfl, rfl, by go_num, by omega, HR3, hb3⟩
          case measure => simp [intOf]; omega
        · have z1 : (be != be) = false := by simp
          cases z3 : (be != b0)
          all_goals
            go_wp2_with fail
            go_roundw
            case rel => exact ⟨i + 1, so, sc, rfl, rfl, by go_num, by omega, HR3, hb3⟩
            case measure => simp [intOf]; omega
    · obtain rfl : i = ws.length := by omega
      have HEL : Hid (EnIn wr lo A) := by
        have := EnIn.of HER.out
        rw [HTN.out] at this
        exact this
      have HEN : Hid (EnIn wr ao A) := HEA.out.below hbwr
      rw [HTN.out]
      clear HER
      have hll : (((A.length : Nat) : Int) != ((A.length : Nat) : Int)) = false := by simp
      go_wp2_with fail
      go_loopw [16] (fun v16 wq => ∃ (k nd : Nat), v16 = .int .i64 k ∧ k ≤ A.length ∧ wq = wr.drewN nd) (fun v16 _ => A.length - (intOf v16).toNat)
      case atStart => exact ⟨0, 0, rfl, Nat.zero_le _, rfl⟩
      case round =>
        obtain ⟨k, nd, rfl, hkl, rfl⟩ := hrel
        by_cases hlk : k < A.length
        · obtain ⟨g1, rfl, hg1, c0, c1, c2⟩ := HEL.out k hlk
          obtain ⟨g2, rfl, hg2, d0, d1, d2⟩ := HEN.out k hlk
          generalize A[k] = r at *
          obtain ⟨rbt, rac, rtx⟩ := r
          simp only [] at c0 c1 c2 d0 d1 d2
          go_wp2_with fail
          go_quiet (fail)
          go_wp2_with fail
          go_roundw
          case rel => exact ⟨k + 1, _, by go_num, by omega, rfl⟩
          case measure => simp [intOf]; omega
        · go_wp2_with fail
          go_ret
          exact ⟨rfl, below_drewN hbwr _⟩
end Go.Proofs.YtgkiknfpcbcnnaaGreat
namespace Go.Proofs.YtgkiknfpcbcnnaaGreat
open Go.RowKit
set_option maxRecDepth 20000
theorem strRow_get' {w : World} {B : Nat} {ao : Option Addr} {n c : Nat} {L : List ByteArray} (h : StrRow w B (.slice ao n c) L) (hl : 0 < L.length) : ∃ g, ao = some ⟨g, 0, none⟩ ∧ g < w.heap.size ∧ ∀ i (hi : i < L.length), w.cell? ⟨g, i, none⟩ = some (.string L[i]) := by
  rcases h.2 with ⟨_, h0⟩ | ⟨g, c', cur, hv, hg, hh, _⟩
  · omega
  · simp only [Value.slice.injEq] at hv
    refine ⟨g, hv.1, lt_of_block hh, fun i hi => ?_⟩
    have c1 := h.cells (g := g) (by rw [hv.1]; rfl) i (.string L[i]) (by rw [List.getElem?_map, List.getElem?_eq_getElem hi]; rfl)
    rw [add0, Nat.zero_add] at c1
    exact c1
theorem cbB_le (s : ByteArray) : (cbB s).length ≤ 256 := by
  unfold cbB cbL
  rw [List.length_map]
  split
  · rename_i h
    simp only [Bool.and_eq_true, decide_eq_true_eq] at h
    rw [cubS_len]
    exact h.2
  · simp
theorem tabL_takeR (M : List (Rl × Int)) (i : Nat) (h : i < M.length) : tabL (M.take (i + 1)) = tabL (M.take i) ++ enOf M[i] := by
  unfold tabL
  rw [List.take_add_one, List.getElem?_eq_getElem h, List.flatMap_append]
  simp
theorem tabL_pre (M : List (Rl × Int)) (i : Nat) : (tabL (M.take i)).length ≤ (tabL M).length := by
  have : tabL M = tabL (M.take i) ++ tabL (M.drop i) := by
    unfold tabL
    rw [← List.flatMap_append, List.take_append_drop]
  rw [this, List.length_append]
  omega
set_option maxHeartbeats 3000000 in
theorem refTable_any (g : Nat) (st : Gs) (F : Nat → Prop) (w : World) (h : RGate w g st F) :
    Calls Tryz.prog 46 #[.pointer (some ⟨g, 0, none⟩)] w fun e w' => (∃ v, e = .returned v ∧ ERow w' w.heap.size v (tabS st)) ∧ Below w.heap.size w w' := by
  obtain ⟨i0, hi, hz0, hz1, hz2⟩ := info_parts infoEntry
  have h128 : (tabS st).length ≤ 128 := tabS_len h.ok
  obtain ⟨ao, cap, hread, _, _⟩ := h.read
  have HG : Hid (GRead w g st.c ao cap st.rts) := hread
  obtain ⟨lo, lc, qs, k7, hqr, hrow0, hsd, _, hgz⟩ := h.said
  have hql : st.rls.length = qs.length := by rw [← hqr, List.length_map]
  rw [hql] at k7 hrow0
  have h24 : qs.length ≤ 24 := by rw [← hql]; exact h.ok.l24
  have HI : Hid (SdIn w lo qs) := SdIn.of hrow0
  have HT : Hid (Tel (qs.map Sd.r)) := by rw [hqr]; exact h.ok.tel
  have HSH : Hid (∀ s ∈ qs, (∃ po pn pc co cn cc, s.v = .slice po pn pc ∧ s.cv = .slice co cn cc) ∧ bl s.ky = kyR s.r) := fun s hs => ⟨(hsd s hs).shape, (hsd s hs).key⟩
  have HD : Hid (∀ s ∈ sortS qs, SdR w (fun b => F b ∧ b ≠ g) s) := fun s hs => by
    have hm := (sortS_perm qs).mem_iff.1 hs
    have hr : s.r ∈ st.rls := by rw [← hqr]; exact List.mem_map_of_mem hm
    exact ⟨hsd s hm, (h.ok.rl _ hr).1, (h.ok.rl _ hr).2.1⟩
  have HF : Hid (∀ b, (F b ∧ b ≠ g) → b < w.heap.size) := fun b hb => h.lt b hb.1
  have HM : Hid ((sortS qs).map Sd.r = sortR st.rls) := by show _ = _; rw [sortS_map, hqr]
  have hsl : (sortS qs).length = qs.length := (sortS_perm qs).length_eq
  have hs24 : (sortS qs).length ≤ 24 := by omega
  clear h hread hqr hsd hql hrow0 hsl
  go_enter Tryz.func46, Tryz.ntmps46
  go_wp2_with fail
  refine (sorted_any g lo lc qs w k7 hgz HI.out HSH.out HT.out h24).mono ?_
  rintro e w1 ⟨⟨v1, rfl, hr1⟩, hb1⟩
  obtain ⟨so, sc, rfl⟩ := ownsRow_shape hr1
  have hz1w := hb1.size
  have HI1 : Hid (SdIn w1 so (sortS qs)) := SdIn.of hr1
  have HST : Hid (stats st = ((sortS qs).map Sd.r).zip (stF st.c st.rts ⟨#[]⟩ 0 false ((sortS qs).map Sd.r))) := by show _ = _; rw [HM.out]; rfl
  have HLN : Hid ((stF st.c st.rts ⟨#[]⟩ 0 false ((sortS qs).map Sd.r)).length = (sortS qs).length) := by show _ = _; rw [stF_len, List.length_map]
  have HC : Hid (Calls Tryz.prog 67 #[.pointer (some ⟨g, 0, none⟩), .slice so (sortS qs).length sc] w1 fun e w' => (∃ v, e = .returned v ∧ IRow w' w1.heap.size v (stF st.c st.rts ⟨#[]⟩ 0 false ((sortS qs).map Sd.r))) ∧ Below w1.heap.size w1 w') := states_any g st.c ao cap st.rts (sortS qs) so sc (fun b => F b ∧ b ≠ g) w1 (HG.out.below hb1) HI1.out (fun s hs => (HD.out s hs).below HF.out hb1) (fun b hb => Nat.lt_of_lt_of_le (HF.out b hb) hz1w) hs24
  have HCB : Hid (∀ s ∈ sortS qs, ∃ co cc, s.cv = .slice co (cbB s.r.tx).length cc ∧ StrRow w 0 (.slice co (cbB s.r.tx).length cc) (cbB s.r.tx)) := fun s hs => by
    have hok := (HD.out s hs).ok
    have e : s.cs = cbB s.r.tx := cbB_of hok.cubes
    have hr := hok.row
    rw [e] at hr
    obtain ⟨co, cc, hcv⟩ := ownsRow_shape hr
    rw [hcv] at hr
    exact ⟨co, cc, hcv, hr⟩
  generalize sortS qs = L at *
  generalize stF st.c st.rts ⟨#[]⟩ 0 false (L.map Sd.r) = O at *
  clear hr1 HI HT HSH HD HM HG HF
  go_wp2_with fail
  refine HC.out.mono ?_
  rintro e w2 ⟨⟨v2, rfl, hr2⟩, hb2⟩
  obtain ⟨oo, oc, rfl⟩ := ownsRow_shape hr2
  have HI2 : Hid (SdIn w2 so L) := HI1.out.below hb2
  have hz2w := hb2.size
  have hb02 : Below w.heap.size w w2 := hb1.trans (hb2.mono hz1w)
  have HTS : Hid (tabS st = tabL ((L.map Sd.r).zip O)) := by show _ = _; unfold tabS; rw [HST.out]
  have HPR : Hid (∀ i, (tabL (((L.map Sd.r).zip O).take i)).length ≤ 128) := fun i => by
    have := tabL_pre ((L.map Sd.r).zip O) i
    rw [← HTS.out] at this
    omega
  clear HC HI1 HST h128
  go_wp2_with fail
  go_loopw [5, 6] (fun v x wr => ∃ (i : Nat) (T : List En), x = .int .i64 i ∧ i ≤ L.length ∧ ERow wr w2.heap.size v T ∧ Hid (T = tabL (((L.map Sd.r).zip O).take i)) ∧ Below w2.heap.size w2 wr) (fun _ x _ => L.length - (intOf x).toNat)
  case atStart => exact ⟨0, [], rfl, Nat.zero_le _, ERow.nil _ _, rfl, Below.refl _ _⟩
  case round =>
    obtain ⟨i, T, rfl, hil, hrow, HT, hbel⟩ := hrel
    obtain ⟨to, tc, rfl⟩ := ownsRow_shape hrow
    have hz := hbel.size
    by_cases hlt : i < L.length
    · have hOl : i < O.length := by rw [HLN.out]; exact hlt
      obtain ⟨rk, ro, rfl, bz, c0, _, c2, _, _, _, c6⟩ := HI2.out i hlt
      obtain ⟨ok, rfl, oz, hoc⟩ := hr2.get (by omega)
      have d0 := hoc i hOl
      have hOi : i < ((L.map Sd.r).zip O).length := by rw [List.length_zip, List.length_map]; omega
      have HN : Hid (tabL (((L.map Sd.r).zip O).take (i + 1)) = T ++ enOf (L[i].r, O[i])) := by
        show _ = _
        rw [tabL_takeR _ _ hOi, ← HT.out]
        simp
      have hpre := HPR.out (i + 1)
      rw [HN.out] at hpre
      have hOlen : Hid (O.length = L.length) := HLN.out
      obtain ⟨co, cc, hcv, hcr0⟩ := HCB.out L[i] (List.getElem_mem hlt)
      have hcr : StrRow w2 0 (.slice co (cbB L[i].r.tx).length cc) (cbB L[i].r.tx) := ownsRow_below hcr0 hb02
      have hcl := cbB_le L[i].r.tx
      rw [hcv] at c6
      generalize L[i] = s at *
      generalize O[i] = sta at *
      have iO : (i : Int) < (O.length : Int) := by omega
      clear hoc hcv hcr0
      by_cases h3 : sta = 3
      · have q3 : (sta == 3) = true := by simpa using h3
        have HE : Hid (enOf (s.r, sta) = (cbB s.r.tx).map fun b => ⟨b, s.r.ac, s.r.tx⟩) := by show _ = _; unfold enOf; rw [if_pos h3]
        rw [HE.out] at HN hpre
        generalize cbB s.r.tx = C at *
        rw [List.length_append, List.length_map] at hpre
        clear HE
        go_wp2_with fail
        go_loopw [5, 7] (fun v x wq => ∃ (k : Nat) (T1 : List En), x = .int .i64 k ∧ k ≤ C.length ∧ ERow wq w2.heap.size v T1 ∧ Hid (T1 = T ++ (C.take k).map fun b => ⟨b, s.r.ac, s.r.tx⟩) ∧ Below w2.heap.size w2 wq) (fun _ x _ => C.length - (intOf x).toNat)
        case atStart => exact ⟨0, T, rfl, Nat.zero_le _, hrow, by show _ = _; simp, hbel⟩
        case round =>
          clear hrow hbel hz
          obtain ⟨k, T1, rfl, hkl, hrow, HT1, hbel⟩ := hrel
          obtain ⟨to1, tc1, rfl⟩ := ownsRow_shape hrow
          have hz := hbel.size
          have hTl : T1.length ≤ 128 := by
            rw [HT1.out, List.length_append, List.length_map, List.length_take]
            omega
          have e0 := (hbel.cell (p := ⟨rk, ro + i * 7 + 6, none⟩) bz).trans c6
          have e1 := (hbel.cell (p := ⟨ok, i, none⟩) oz).trans d0
          by_cases hkc : k < C.length
          · obtain ⟨cg, rfl, hcz, hcc⟩ := strRow_get' hcr (by omega)
            have e2 := hcc k hkc
            have HK : Hid (T ++ (C.take (k + 1)).map (fun b => (⟨b, s.r.ac, s.r.tx⟩ : En)) = T1 ++ [⟨C[k], s.r.ac, s.r.tx⟩]) := by
              show _ = _
              rw [HT1.out, List.take_add_one, List.getElem?_eq_getElem hkc, List.map_append, List.append_assoc]
              rfl
            have ik : (k : Int) < (C.length : Int) := by omega
            generalize C[k] = cu at *
            have HS : Hid (∀ w' : World, Below w2.heap.size w2 w' → w'.cell? ⟨rk, ro + i * 7, none⟩ = some (.string s.r.tx) ∧ w'.cell? ⟨rk, ro + i * 7 + 2, none⟩ = some (.int .i64 s.r.ac) ∧ w'.cell? ⟨rk, ro + i * 7 + 6, none⟩ = some (.slice (some ⟨cg, 0, none⟩) C.length cc) ∧ w'.cell? ⟨cg, k, none⟩ = some (.string cu) ∧ Below w2.heap.size w2 w') := fun w' hx =>
              ⟨(hx.cell bz).trans c0, (hx.cell bz).trans c2, (hx.cell bz).trans c6, (hx.cell hcz).trans e2, hx⟩
            have h63 : Hid (T1.length + 1 ≤ maxLen) := by show _ ≤ _; unfold maxLen; omega
            have hby : Hid ((T1.length + 1) * 40 ≤ 140737488355328) := by show _ ≤ _; omega
            clear hcc e2 HT1
            go_wp2_with fail
            go_region_held_law (fun w' => w'.cell? ⟨rk, ro + i * 7, none⟩ = some (.string s.r.tx) ∧ w'.cell? ⟨rk, ro + i * 7 + 2, none⟩ = some (.int .i64 s.r.ac) ∧ w'.cell? ⟨rk, ro + i * 7 + 6, none⟩ = some (.slice (some ⟨cg, 0, none⟩) C.length cc) ∧ w'.cell? ⟨cg, k, none⟩ = some (.string cu) ∧ Below w2.heap.size w2 w')
              (first | exact HS.out _ hbel.drew | exact HS.out _ (hbel.alloc hz _).drew | exact HS.out _ ((hbel.alloc hz _).drew.grown hgrow (by simp; omega) (fun k hk => (World.ownsRow.lt hrow k hk).1)))
              ((refine step_append_lies _ (by rfl) _ _ 53 (by rfl) w2.heap.size 63 i0 _ 3 40 Tryz.underlying53 hi hz0 hz1 hz2 rfl (by decide) _ _ _ (by rfl) (ownsRow_below hrow ((Below.refl _ _).alloc (Nat.le_refl _) _).drew) ⟨wr.heap.size, 0, none⟩ 1 1 (enC ⟨cu, s.r.ac, s.r.tx⟩) (by rfl) rfl (World.news_of_block (heap_alloc_new wr _)) (enC_one _) (by decide) h63.out hby.out (by simp; omega) _ rfl ?_; intro g' cp w8 hown hgrow hat hlt8))
            have hw8 : Below w2.heap.size w2 w8 := (hbel.alloc hz _).drew.grown hgrow (by simp; omega) (fun k hk => (World.ownsRow.lt hrow k hk).1)
            have hrow8 := ERow.snoc hown
            have HK8 : Hid (T1 ++ [⟨cu, s.r.ac, s.r.tx⟩] = T ++ (C.take (k + 1)).map (fun b => (⟨b, s.r.ac, s.r.tx⟩ : En))) := HK.out.symm
            clear hown hgrow hat HK
            go_wp2_with fail
            go_roundw
            case rel => exact ⟨k + 1, _, by go_num, by omega, hrow8, HK8, hw8⟩
            case measure => simp [intOf]; omega
          · have HX : Hid (T1 = tabL (((L.map Sd.r).zip O).take (i + 1))) := by
              show _ = _
              rw [HN.out, HT1.out, List.take_of_length_le (by omega)]
            clear HT1 HN
            go_wp2_with fail
            go_roundw
            case rel => exact ⟨i + 1, T1, by go_num, by omega, hrow, HX, hbel⟩
            case measure => simp [intOf]; omega
      · have q3 : (sta == 3) = false := by simpa using h3
        have HX : Hid (T = tabL (((L.map Sd.r).zip O).take (i + 1))) := by
          show _ = _
          rw [HN.out]
          unfold enOf
          rw [if_neg h3, List.append_nil]
        generalize cbB s.r.tx = C at *
        clear HN HT hpre h3
        go_wp2_with fail
        go_loopw [5, 7] (fun v x wq => x = .int .i64 0 ∧ v = .slice to T.length tc ∧ wq = wr) (fun _ _ _ => 0)
        case atStart => exact ⟨rfl, rfl, rfl⟩
        case round =>
          obtain ⟨rfl, rfl, rfl⟩ := hrel
          have e0 := (hbel.cell (p := ⟨rk, ro + i * 7 + 6, none⟩) bz).trans c6
          have e1 := (hbel.cell (p := ⟨ok, i, none⟩) oz).trans d0
          by_cases hc0 : 0 < C.length
          · have z1 : decide ((0 : Int) < (C.length : Int)) = true := by rw [decide_eq_true_iff]; omega
            go_wp2_with fail
            go_roundw
            case rel => exact ⟨i + 1, T, by go_num, by omega, hrow, HX, hbel⟩
            case measure => simp [intOf]; omega
          · have z1 : decide ((0 : Int) < (C.length : Int)) = false := by rw [decide_eq_false_iff_not]; omega
            go_wp2_with fail
            go_roundw
            case rel => exact ⟨i + 1, T, by go_num, by omega, hrow, HX, hbel⟩
            case measure => simp [intOf]; omega
    · have HX : Hid (T = tabS st) := by
        show _ = _
        rw [HT.out, HTS.out, List.take_of_length_le]
        rw [List.length_zip, List.length_map]
        omega
      clear HT
      go_wp2_with fail
      go_ret
      exact ⟨⟨_, rfl, by rw [← HX.out]; exact ownsRow_base hrow (by omega)⟩, hb02.trans (hbel.mono (by omega))⟩
end Go.Proofs.YtgkiknfpcbcnnaaGreat
