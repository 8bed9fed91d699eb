import Derived.Test.YtgkiknfpcbcnnaaGreatGag
import Derived.Deep.MidRow
import Derived.Deep.RegionHeldLaw
import Derived.Deep.AppendLies
namespace Go.Proofs.YtgkiknfpcbcnnaaGreat
open Go.RowKit
set_option maxRecDepth 20000
theorem Below.setCells' {B g : Nat} : ∀ (vs : List Value) (o : Nat) {a w : World}, Below B a w → B ≤ g → Below B a (w.setCells g o vs) := by
  intro vs
  induction vs with
  | nil => intro o a w h _; exact h
  | cons v r ih => intro o a w h hg; exact ih (o + 1) (h.setCell (p := ⟨g, o, none⟩) hg v) hg
theorem setCells_shape {g : Nat} {t : TypeId} : ∀ (vs : List Value) (o : Nat) {w : World} {cur : Array Value}, w.heap[g]? = some (.cells cur t (0, 0)) → ∃ cur', (w.setCells g o vs).heap[g]? = some (.cells cur' t (0, 0)) ∧ cur'.size = cur.size := by
  intro vs
  induction vs with
  | nil => intro o w cur h; exact ⟨cur, h, rfl⟩
  | cons v r ih =>
    intro o w cur h
    obtain ⟨cur', h1, h2⟩ := ih (o + 1) (heap_setCell_same w g o cur t v h)
    exact ⟨cur', h1, by rw [h2]; simp⟩
theorem earlier_b (r q : Rl) (po po' : Option Addr) (pn pc pn' pc' : Nat) (ky ky' : ByteArray) (co co' : Option Addr) (cn cc cn' cc' : Nat) (w W0 : World) (h1 : bl ky = kyR r) (h2 : bl ky' = kyR q) (h0 : Below W0.heap.size W0 w) :
    Calls Tryz.prog 88 #[sdV r po pn pc ky co cn cc, sdV q po' pn' pc' ky' co' cn' cc'] w fun e w' => e = .returned (.bool (erl r q)) ∧ Below W0.heap.size W0 w' :=
  (earlier_any r q po po' pn pc pn' pc' ky ky' co co' cn cc cn' cc' w h1 h2).mono fun _ _ h => ⟨h.1, h0.trans (h.2.mono h0.size)⟩
def c7 (w : World) (b o : Nat) (r : Rl) (po : Option Addr) (pn pc : Nat) (ky : ByteArray) (co : Option Addr) (cn cc : Nat) : Prop :=
  w.cell? ⟨b, o, none⟩ = some (.string r.tx) ∧ w.cell? ⟨b, o + 1, none⟩ = some (.int .i64 r.pe) ∧ w.cell? ⟨b, o + 2, none⟩ = some (.int .i64 r.ac) ∧ w.cell? ⟨b, o + 3, none⟩ = some (.slice po pn pc) ∧ w.cell? ⟨b, o + 4, none⟩ = some (.string ky) ∧ w.cell? ⟨b, o + 5, none⟩ = some (.int .i64 (nS (dS r.tx) : Nat)) ∧ w.cell? ⟨b, o + 6, none⟩ = some (.slice co cn cc)
theorem there_of {w : World} {G : Nat} {cur : Array Value} {t : TypeId} {n m : Nat} (h : w.heap[G]? = some (.cells cur t (0, 0))) (hs : cur.size = n * 7) (hm : m < n) : ∀ k, k < 7 → ∃ u, w.cell? ⟨G, m * 7 + k, none⟩ = some u := by
  intro k hk
  have hl : m * 7 + k < cur.size := by rw [hs]; omega
  exact ⟨cur[m * 7 + k], by rw [cell_of_row w G _ cur t _ h]; exact Array.getElem?_eq_getElem hl⟩
theorem posS_ne {l : List Sd} (ht : Tel (l.map Sd.r)) {i j : Nat} (hi : i < l.length) (hj : j < l.length) (hne : i ≠ j) : posS l l[i] ≠ posS l l[j] := by
  intro he
  obtain ⟨p, hp, ep⟩ := List.getElem_of_mem ((sortS_perm l).mem_iff.2 (List.getElem_mem hi))
  obtain ⟨p', hp', ep'⟩ := List.getElem_of_mem ((sortS_perm l).mem_iff.2 (List.getElem_mem hj))
  have h1 := posS_sort ht p hp
  have h2 := posS_sort ht p' hp'
  rw [ep] at h1
  rw [ep'] at h2
  have hpp : p = p' := by omega
  subst hpp
  have hsame : l[i] = l[j] := ep.symm.trans ep'
  have hpw := List.pairwise_iff_getElem.1 ht.2
  have hli : i < (l.map Sd.r).length := by rw [List.length_map]; exact hi
  have hlj : j < (l.map Sd.r).length := by rw [List.length_map]; exact hj
  rcases Nat.lt_or_gt_of_ne hne with h | h
  · have := hpw i j hli hlj h
    simp only [List.getElem_map] at this
    rw [hsame] at this
    exact this ⟨rfl, rfl⟩
  · have := hpw j i hlj hli h
    simp only [List.getElem_map] at this
    rw [hsame] at this
    exact this ⟨rfl, rfl⟩
theorem chunks {α : Type} : ∀ (n : Nat) (l : List α), l.length = n * 7 → ((List.range n).map fun p => (l.drop (p * 7)).take 7).flatten = l := by
  intro n
  induction n with
  | zero => intro l h; simp at h; simp [h]
  | succ n ih =>
    intro l h
    rw [List.range_succ_eq_map, List.map_cons, List.flatten_cons, List.map_map]
    have e : (List.range n).map ((fun p => (l.drop (p * 7)).take 7) ∘ Nat.succ) = (List.range n).map fun p => ((l.drop 7).drop (p * 7)).take 7 := by
      apply List.map_congr_left
      intro p _
      show (l.drop ((p + 1) * 7)).take 7 = _
      rw [List.drop_drop]
      congr 2
      omega
    rw [e, ih (l.drop 7) (by rw [List.length_drop]; omega)]
    simp
theorem sdC_len (s : Sd) : (sdC s).length = 7 := rfl
theorem range_chunk {w : World} {G : Nat} {cur : Array Value} {t : TypeId} {p : Nat} {s : Sd} (h : w.heap[G]? = some (.cells cur t (0, 0))) (hr : w.rangeAt G (p * 7) (sdC s)) : (cur.toList.drop (p * 7)).take 7 = sdC s := by
  apply List.ext_getElem?
  intro k
  by_cases hk : k < 7
  · rw [List.getElem?_take, if_pos hk, List.getElem?_drop]
    obtain ⟨u, hu⟩ : ∃ u, (sdC s)[k]? = some u := ⟨(sdC s)[k]'(by rw [sdC_len]; exact hk), List.getElem?_eq_getElem (by rw [sdC_len]; exact hk)⟩
    have := hr k u hu
    rw [cell_of_row w G _ cur t _ h] at this
    rw [hu, ← this]
    simp
  · rw [List.getElem?_eq_none (by rw [List.length_take]; omega), List.getElem?_eq_none (by rw [sdC_len]; omega)]
theorem sort_row {w : World} {G : Nat} {cur : Array Value} {qs : List Sd} (ht : Tel (qs.map Sd.r)) (h : w.heap[G]? = some (.cells cur 119 (0, 0))) (hs : cur.size = qs.length * 7) (h24 : qs.length ≤ 24) (hr : ∀ s ∈ qs, w.rangeAt G (posS qs s * 7) (sdC s)) : SRow w G (.slice (some ⟨G, 0, none⟩) qs.length qs.length) (sortS qs) := by
  have hl := (sortS_perm qs).length_eq
  have hM := sort_fill ht (M := (List.range qs.length).map fun p => (cur.toList.drop (p * 7)).take 7) (by simp) (fun s hm => by
    have hp := posS_lt hm
    rw [List.getElem?_map, List.getElem?_range hp]
    exact congrArg some (range_chunk h (hr s hm)))
  have hc := chunks qs.length cur.toList (by simpa using hs)
  rw [hM] at hc
  have hfl : ((sortS qs).map sdC).flatten = sdCs (sortS qs) := rfl
  rw [hfl] at hc
  have hcl : (sdCs (sortS qs)).length = qs.length * 7 := by rw [hc]; simpa using hs
  refine ⟨by rw [hl]; exact hcl, .inr ⟨G, qs.length, cur, by rw [hl], Nat.le_refl _, h, by rw [hl]; exact Nat.le_refl _, by unfold maxLen; omega, hs, ?_⟩⟩
  rw [hl, ← hc, List.take_of_length_le (by rw [hcl]; exact Nat.le_refl _)]
set_option maxHeartbeats 2000000 in
theorem sorted_any (g : Nat) (lo : Option Addr) (lc : Nat) (qs : List Sd) (w : World) (k7 : w.cell? ⟨g, 7, none⟩ = some (.slice lo qs.length lc)) (hgz : g < w.heap.size) (hin : SdIn w lo qs) (hsh : ∀ s ∈ qs, (∃ po pn pc co cn cc, s.v = .slice po pn pc ∧ s.cv = .slice co cn cc) ∧ bl s.ky = kyR s.r) (ht : Tel (qs.map Sd.r)) (h24 : qs.length ≤ 24) :
    Calls Tryz.prog 66 #[.pointer (some ⟨g, 0, none⟩)] w fun e w' => (∃ v, e = .returned v ∧ SRow w' w.heap.size v (sortS qs)) ∧ Below w.heap.size w w' := by
  obtain ⟨i0, hi, hz0, hz1, hz2⟩ := info_parts infoSaid
  have HI : Hid (SdIn w lo qs) := hin
  have HS : Hid (∀ s ∈ qs, (∃ po pn pc co cn cc, s.v = .slice po pn pc ∧ s.cv = .slice co cn cc) ∧ bl s.ky = kyR s.r) := hsh
  have HT : Hid (Tel (qs.map Sd.r)) := ht
  clear hin hsh ht
  go_enter Tryz.func66, Tryz.ntmps66
  go_wp2_with (at_make; refine wpList_make_full _ rfl _ _ 75 rfl w.heap.size 119 i0 _ 7 Tryz.underlying75 hi hz0 hz1 _ _ _ _ qs.length rfl rfl rfl rfl (by rw [hz2]; omega) (by unfold maxLen; omega) (Nat.le_refl _) ?_; intro w1 hown hgrow)
  have hb1 : Below w.heap.size w w1 := (Below.refl _ _).grown hgrow (Nat.le_refl _) (fun k hk => by simp at hk)
  have hshape : ∃ cur, w1.heap[w.heap.size]? = some (.cells cur 119 (0, 0)) ∧ cur.size = qs.length * 7 := by
    rcases hown.2 with ⟨he, _⟩ | ⟨G, c', cur, hv, _, hh, _, _, hcs, _⟩
    · simp at he
    · simp only [Value.slice.injEq, Option.some.injEq, Addr.mk.injEq, and_true] at hv
      obtain ⟨rfl, _, rfl⟩ := hv
      exact ⟨cur, hh, hcs⟩
  have HSH : Hid (∃ cur, w1.heap[w.heap.size]? = some (.cells cur 119 (0, 0)) ∧ cur.size = qs.length * 7) := hshape
  clear hown hgrow hshape
  go_loopw [4] (fun x wr => ∃ i : Nat, x = .int .i64 i ∧ i ≤ qs.length ∧ Below w.heap.size w wr ∧ Hid (∃ cur, wr.heap[w.heap.size]? = some (.cells cur 119 (0, 0)) ∧ cur.size = qs.length * 7) ∧ Hid (∀ j (h : j < qs.length), j < i → wr.rangeAt w.heap.size (posS qs qs[j] * 7) (sdC qs[j]))) (fun x _ => qs.length - (intOf x).toNat)
  case atStart => exact ⟨0, rfl, Nat.zero_le _, hb1, HSH, fun j _ hj => by omega⟩
  case round =>
    clear HSH hb1
    obtain ⟨i, rfl, hil, hb0, HSH, HP⟩ := hrel
    have k7w := (hb0.cell (p := ⟨g, 7, none⟩) hgz).trans k7
    have hz := hb0.size
    by_cases hlt : i < qs.length
    · obtain ⟨⟨po, pn, pc, co, cn, cc, hv, hcv⟩, hky⟩ := HS.out qs[i] (List.getElem_mem hlt)
      obtain ⟨rk, ro, rfl, bz, c0, c1, c2, c3, c4, c5, c6⟩ := HI.out.below hb0 i hlt
      have hpl := posS_lt (List.getElem_mem hlt)
      have HPO : Hid (∀ k, (qs.take k).countP (fun s => erl s.r qs[i].r) = (qs.take k).countP (fun s => erl s.r qs[i].r)) := fun _ => rfl
      have HPP : Hid (posS qs qs[i] = qs.countP (fun s => erl s.r qs[i].r)) := rfl
      have HPQ : Hid (∀ j (h : j < qs.length), j < i + 1 → j = i ∨ j < i) := fun j _ hj => by omega
      obtain ⟨q, hq⟩ : ∃ q, q = qs[i] := ⟨_, rfl⟩
      have HQ : Hid (q = qs[i]) := hq
      rw [← hq] at hv hcv hky c0 c1 c2 c3 c4 c5 c6 hpl HPP
      rw [hv] at c3
      rw [hcv] at c6
      have HC : Hid (sdC q = [.string q.r.tx, .int .i64 q.r.pe, .int .i64 q.r.ac, .slice po pn pc, .string q.ky, .int .i64 (nS (dS q.r.tx) : Nat), .slice co cn cc]) := by show _ = _; unfold sdC; rw [hv, hcv]
      have HKY : Hid (bl q.ky = kyR q.r) := hky
      clear hq hv hcv hky HPO
      obtain ⟨W, hW⟩ : ∃ W, W = wr := ⟨_, rfl⟩
      have HW : Hid (W = wr) := hW
      go_wp2_with fail
      rw [← hW] at hb0 HSH HP k7w hz bz c0 c1 c2 c3 c4 c5 c6
      clear hW
      go_loopw [5, 6] (fun m x wr2 => ∃ k n : Nat, x = .int .i64 k ∧ m = .int .i64 n ∧ k ≤ qs.length ∧ n ≤ k ∧ Hid (n = (qs.take k).countP (fun s => erl s.r q.r)) ∧ Below W.heap.size W wr2) (fun _ x _ => qs.length - (intOf x).toNat)
      case atStart => exact ⟨0, 0, rfl, rfl, Nat.zero_le _, Nat.le_refl _, rfl, by rw [HW.out]; exact Below.refl _ _⟩
      case round =>
        clear HW
        obtain ⟨k, n, rfl, rfl, hkl, hnk, HN, hbW⟩ := hrel
        have hzW := hbW.size
        have hgW : g < W.heap.size := by omega
        have k7r := (hbW.cell (p := ⟨g, 7, none⟩) hgW).trans k7w
        have a0 := (hbW.cell (p := ⟨rk, ro + i * 7, none⟩) bz).trans c0
        have a1 := (hbW.cell (p := ⟨rk, ro + i * 7 + 1, none⟩) bz).trans c1
        have a2 := (hbW.cell (p := ⟨rk, ro + i * 7 + 2, none⟩) bz).trans c2
        have a3 := (hbW.cell (p := ⟨rk, ro + i * 7 + 3, none⟩) bz).trans c3
        have a4 := (hbW.cell (p := ⟨rk, ro + i * 7 + 4, none⟩) bz).trans c4
        have a5 := (hbW.cell (p := ⟨rk, ro + i * 7 + 5, none⟩) bz).trans c5
        have a6 := (hbW.cell (p := ⟨rk, ro + i * 7 + 6, none⟩) bz).trans c6
        have bzr : rk < wr.heap.size := by omega
        by_cases hkt : k < qs.length
        · obtain ⟨⟨po', pn', pc', co', cn', cc', hv', hcv'⟩, hky'⟩ := HS.out qs[k] (List.getElem_mem hkt)
          obtain ⟨rk2, ro2, hao, _, d0, d1, d2, d3, d4, d5, d6⟩ := (HI.out.below hb0).below hbW k hkt
          simp only [Option.some.injEq, Addr.mk.injEq, and_true] at hao
          obtain ⟨rfl, rfl⟩ := hao
          have hct : (qs.take (k + 1)).countP (fun s => erl s.r q.r) = (qs.take k).countP (fun s => erl s.r q.r) + (if erl qs[k].r q.r then 1 else 0) := by
            rw [List.take_add_one, List.getElem?_eq_getElem hkt, List.countP_append]
            simp [List.countP_cons]
          have HCT : Hid ((qs.take (k + 1)).countP (fun s => erl s.r q.r) = (qs.take k).countP (fun s => erl s.r q.r) + (if erl qs[k].r q.r then 1 else 0)) := hct
          clear hct
          generalize qs[k] = p at *
          rw [hv'] at d3
          rw [hcv'] at d6
          have HE : Hid (∀ w', Below wr.heap.size wr w' → Calls Tryz.prog 88 #[.agg #[.string p.r.tx, .int .i64 p.r.pe, .int .i64 p.r.ac, .slice po' pn' pc', .string p.ky, .int .i64 (nS (dS p.r.tx) : Nat), .slice co' cn' cc'], .agg #[.string q.r.tx, .int .i64 q.r.pe, .int .i64 q.r.ac, .slice po pn pc, .string q.ky, .int .i64 (nS (dS q.r.tx) : Nat), .slice co cn cc]] w' fun e w'' => e = .returned (.bool (erl p.r q.r)) ∧ Below wr.heap.size wr w'') := fun w' h => earlier_b p.r q.r po' po pn' pc' pn pc p.ky q.ky co' co cn' cc' cn cc w' wr hky' HKY.out h
          have HST : Hid (∀ w' : World, Below wr.heap.size wr w' → (w'.cell? ⟨g, 7, none⟩ = some (.slice (some ⟨rk, ro, none⟩) qs.length lc) ∧ w'.cell? ⟨rk, ro + i * 7, none⟩ = some (.string q.r.tx) ∧ w'.cell? ⟨rk, ro + i * 7 + 1, none⟩ = some (.int .i64 q.r.pe) ∧ w'.cell? ⟨rk, ro + i * 7 + 2, none⟩ = some (.int .i64 q.r.ac) ∧ w'.cell? ⟨rk, ro + i * 7 + 3, none⟩ = some (.slice po pn pc) ∧ w'.cell? ⟨rk, ro + i * 7 + 4, none⟩ = some (.string q.ky) ∧ w'.cell? ⟨rk, ro + i * 7 + 5, none⟩ = some (.int .i64 (nS (dS q.r.tx) : Nat)) ∧ w'.cell? ⟨rk, ro + i * 7 + 6, none⟩ = some (.slice co cn cc) ∧ w'.cell? ⟨rk, ro + k * 7, none⟩ = some (.string p.r.tx) ∧ w'.cell? ⟨rk, ro + k * 7 + 1, none⟩ = some (.int .i64 p.r.pe) ∧ w'.cell? ⟨rk, ro + k * 7 + 2, none⟩ = some (.int .i64 p.r.ac) ∧ w'.cell? ⟨rk, ro + k * 7 + 3, none⟩ = some (.slice po' pn' pc') ∧ w'.cell? ⟨rk, ro + k * 7 + 4, none⟩ = some (.string p.ky) ∧ w'.cell? ⟨rk, ro + k * 7 + 5, none⟩ = some (.int .i64 (nS (dS p.r.tx) : Nat)) ∧ w'.cell? ⟨rk, ro + k * 7 + 6, none⟩ = some (.slice co' cn' cc')) ∧ Below wr.heap.size wr w') := fun w' hx =>
            ⟨⟨(hx.cell (by show g < wr.heap.size; omega)).trans k7r, (hx.cell bzr).trans a0, (hx.cell bzr).trans a1, (hx.cell bzr).trans a2, (hx.cell bzr).trans a3, (hx.cell bzr).trans a4, (hx.cell bzr).trans a5, (hx.cell bzr).trans a6, (hx.cell bzr).trans d0, (hx.cell bzr).trans d1, (hx.cell bzr).trans d2, (hx.cell bzr).trans d3, (hx.cell bzr).trans d4, (hx.cell bzr).trans d5, (hx.cell bzr).trans d6⟩, hx⟩
          clear hv' hcv' hky'
          cases hE : erl p.r q.r
          · rw [hE] at HE HCT
            go_wp2_with fail
            go_region_held3 (fun w' => (w'.cell? ⟨g, 7, none⟩ = some (.slice (some ⟨rk, ro, none⟩) qs.length lc) ∧ w'.cell? ⟨rk, ro + i * 7, none⟩ = some (.string q.r.tx) ∧ w'.cell? ⟨rk, ro + i * 7 + 1, none⟩ = some (.int .i64 q.r.pe) ∧ w'.cell? ⟨rk, ro + i * 7 + 2, none⟩ = some (.int .i64 q.r.ac) ∧ w'.cell? ⟨rk, ro + i * 7 + 3, none⟩ = some (.slice po pn pc) ∧ w'.cell? ⟨rk, ro + i * 7 + 4, none⟩ = some (.string q.ky) ∧ w'.cell? ⟨rk, ro + i * 7 + 5, none⟩ = some (.int .i64 (nS (dS q.r.tx) : Nat)) ∧ w'.cell? ⟨rk, ro + i * 7 + 6, none⟩ = some (.slice co cn cc) ∧ w'.cell? ⟨rk, ro + k * 7, none⟩ = some (.string p.r.tx) ∧ w'.cell? ⟨rk, ro + k * 7 + 1, none⟩ = some (.int .i64 p.r.pe) ∧ w'.cell? ⟨rk, ro + k * 7 + 2, none⟩ = some (.int .i64 p.r.ac) ∧ w'.cell? ⟨rk, ro + k * 7 + 3, none⟩ = some (.slice po' pn' pc') ∧ w'.cell? ⟨rk, ro + k * 7 + 4, none⟩ = some (.string p.ky) ∧ w'.cell? ⟨rk, ro + k * 7 + 5, none⟩ = some (.int .i64 (nS (dS p.r.tx) : Nat)) ∧ w'.cell? ⟨rk, ro + k * 7 + 6, none⟩ = some (.slice co' cn' cc')) ∧ Below wr.heap.size wr w')
              (first | exact HST.out _ (by assumption) | exact HST.out _ (Below.refl _ _).drew)
              (first | (go_at_call 88; refine (HE.out _ (by go_split_ands; assumption)).mono ?_; rintro e w1 ⟨rfl, hc1⟩))
            go_wp2_with fail
            go_roundw
            case rel => exact ⟨k + 1, n, by go_num, by first | rfl | go_num, by omega, by omega, by show _ = _; rw [HCT.out, ← HN.out]; rfl, hbW.trans (hc1.mono hzW)⟩
            case measure => simp [intOf]; omega
          · rw [hE] at HE HCT
            go_wp2_with fail
            go_region_held3 (fun w' => (w'.cell? ⟨g, 7, none⟩ = some (.slice (some ⟨rk, ro, none⟩) qs.length lc) ∧ w'.cell? ⟨rk, ro + i * 7, none⟩ = some (.string q.r.tx) ∧ w'.cell? ⟨rk, ro + i * 7 + 1, none⟩ = some (.int .i64 q.r.pe) ∧ w'.cell? ⟨rk, ro + i * 7 + 2, none⟩ = some (.int .i64 q.r.ac) ∧ w'.cell? ⟨rk, ro + i * 7 + 3, none⟩ = some (.slice po pn pc) ∧ w'.cell? ⟨rk, ro + i * 7 + 4, none⟩ = some (.string q.ky) ∧ w'.cell? ⟨rk, ro + i * 7 + 5, none⟩ = some (.int .i64 (nS (dS q.r.tx) : Nat)) ∧ w'.cell? ⟨rk, ro + i * 7 + 6, none⟩ = some (.slice co cn cc) ∧ w'.cell? ⟨rk, ro + k * 7, none⟩ = some (.string p.r.tx) ∧ w'.cell? ⟨rk, ro + k * 7 + 1, none⟩ = some (.int .i64 p.r.pe) ∧ w'.cell? ⟨rk, ro + k * 7 + 2, none⟩ = some (.int .i64 p.r.ac) ∧ w'.cell? ⟨rk, ro + k * 7 + 3, none⟩ = some (.slice po' pn' pc') ∧ w'.cell? ⟨rk, ro + k * 7 + 4, none⟩ = some (.string p.ky) ∧ w'.cell? ⟨rk, ro + k * 7 + 5, none⟩ = some (.int .i64 (nS (dS p.r.tx) : Nat)) ∧ w'.cell? ⟨rk, ro + k * 7 + 6, none⟩ = some (.slice co' cn' cc')) ∧ Below wr.heap.size wr w')
              (first | exact HST.out _ (by assumption) | exact HST.out _ (Below.refl _ _).drew)
              (first | (go_at_call 88; refine (HE.out _ (by go_split_ands; assumption)).mono ?_; rintro e w1 ⟨rfl, hc1⟩))
            go_wp2_with fail
            go_roundw
            case rel => exact ⟨k + 1, n + 1, by go_num, by first | rfl | go_num, by omega, by omega, by show _ = _; rw [HCT.out, ← HN.out]; rfl, hbW.trans (hc1.mono hzW)⟩
            case measure => simp [intOf]; omega
        · have hn : n = posS qs q := by rw [HN.out, HPP.out, List.take_of_length_le (by omega)]
          have hnl : n < qs.length := by omega
          obtain ⟨cur, hh, hcs⟩ := HSH.out
          have hGW := lt_of_block hh
          have hhr : wr.heap[w.heap.size]? = some (.cells cur 119 (0, 0)) := (hbW.block _ hGW).trans hh
          obtain ⟨u0, t0⟩ := there_of hhr hcs hnl 0 (by omega)
          obtain ⟨u1, t1⟩ := there_of hhr hcs hnl 1 (by omega)
          obtain ⟨u2, t2⟩ := there_of hhr hcs hnl 2 (by omega)
          obtain ⟨u3, t3⟩ := there_of hhr hcs hnl 3 (by omega)
          obtain ⟨u4, t4⟩ := there_of hhr hcs hnl 4 (by omega)
          obtain ⟨u5, t5⟩ := there_of hhr hcs hnl 5 (by omega)
          obtain ⟨u6, t6⟩ := there_of hhr hcs hnl 6 (by omega)
          have f0 := frozen_of_row wr w.heap.size (n * 7) cur _ hhr
          have f1 := frozen_of_row wr w.heap.size (n * 7 + 1) cur _ hhr
          have f2 := frozen_of_row wr w.heap.size (n * 7 + 2) cur _ hhr
          have f3 := frozen_of_row wr w.heap.size (n * 7 + 3) cur _ hhr
          have f4 := frozen_of_row wr w.heap.size (n * 7 + 4) cur _ hhr
          have f5 := frozen_of_row wr w.heap.size (n * 7 + 5) cur _ hhr
          have f6 := frozen_of_row wr w.heap.size (n * 7 + 6) cur _ hhr
          rw [Nat.add_zero] at t0
          have hth : wr.there w.heap.size (n * 7) 7 := fun k hk => by
            obtain ⟨u, hu⟩ := there_of hhr hcs hnl k hk
            exact ⟨by rw [hu]; rfl, frozen_of_row wr _ _ cur _ hhr⟩
          have HB' : Hid (Below w.heap.size w (wr.setCells w.heap.size (n * 7) [.string q.r.tx, .int .i64 q.r.pe, .int .i64 q.r.ac, .slice po pn pc, .string q.ky, .int .i64 (nS (dS q.r.tx) : Nat), .slice co cn cc])) := Below.setCells' _ _ (hb0.trans (hbW.mono hz)) (Nat.le_refl _)
          have HSH' : Hid (∃ cur', (wr.setCells w.heap.size (n * 7) [.string q.r.tx, .int .i64 q.r.pe, .int .i64 q.r.ac, .slice po pn pc, .string q.ky, .int .i64 (nS (dS q.r.tx) : Nat), .slice co cn cc]).heap[w.heap.size]? = some (.cells cur' 119 (0, 0)) ∧ cur'.size = qs.length * 7) := by
            obtain ⟨cur', e1, e2⟩ := setCells_shape [.string q.r.tx, .int .i64 q.r.pe, .int .i64 q.r.ac, .slice po pn pc, .string q.ky, .int .i64 (nS (dS q.r.tx) : Nat), .slice co cn cc] (n * 7) hhr
            exact ⟨cur', e1, e2.trans hcs⟩
          have HP' : Hid (∀ j (h : j < qs.length), j < i + 1 → (wr.setCells w.heap.size (n * 7) [.string q.r.tx, .int .i64 q.r.pe, .int .i64 q.r.ac, .slice po pn pc, .string q.ky, .int .i64 (nS (dS q.r.tx) : Nat), .slice co cn cc]).rangeAt w.heap.size (posS qs qs[j] * 7) (sdC qs[j])) := fun j hj hji => by
            rcases HPQ.out j hj hji with rfl | hlt2
            · rw [← HQ.out, ← hn, HC.out]
              exact World.rangeAt_setCells_same wr _ _ _ hth
            · have hr : wr.rangeAt w.heap.size (posS qs qs[j] * 7) (sdC qs[j]) := fun kk u hu => (hbW.cell hGW).trans (HP.out j hj hlt2 kk u hu)
              refine World.rangeAt_setCells_apart hr _ _ _ (.inr ?_)
              have hne := posS_ne HT.out hj hlt (by omega)
              rw [← HQ.out, ← hn] at hne
              rw [sdC_len]
              show _ ∨ n * 7 + 7 ≤ _
              omega
          clear HP HSH HPP HN hth hh hcs hhr HI HS HT HKY HQ HC hn
          go_wp2_with fail
          go_roundw
          case rel => exact ⟨i + 1, by go_num, by omega, HB', HSH', HP'⟩
          case measure => simp [intOf]; omega
    · have HM : Hid (∃ v, v = Value.slice (some ⟨w.heap.size, 0, none⟩) qs.length qs.length ∧ SRow wr w.heap.size v (sortS qs)) := by
        refine ⟨_, rfl, ?_⟩
        obtain ⟨cur, hh, hcs⟩ := HSH.out
        exact sort_row HT.out hh hcs h24 (fun s hm => by
          obtain ⟨j, hj, rfl⟩ := List.getElem_of_mem hm
          exact HP.out j hj (by omega))
      obtain ⟨v, hv, hrow⟩ := HM.out
      subst hv
      clear HSH HP HM
      go_wp2_with fail
      go_ret
      exact ⟨⟨_, rfl, hrow⟩, hb0⟩
end Go.Proofs.YtgkiknfpcbcnnaaGreat
namespace Go.Proofs.YtgkiknfpcbcnnaaGreat
open Go.RowKit
set_option maxRecDepth 20000
theorem infoStatus : (Tryz.prog.info? 59).map (fun i => (i.zero, i.size, i.bytes)) = some (some (.agg #[.string ⟨#[]⟩, .int .i64 0, .int .i64 0, .int .i64 0]), 4, 40) := by kernel_rfl
def ttC (x : Rl × Int) : List Value := [.string x.1.tx, .int .i64 x.1.pe, .int .i64 x.1.ac, .int .i64 x.2]
def ttCs (l : List (Rl × Int)) : List Value := l.flatMap ttC
def TRow (w : World) (B : Nat) (v : Value) (l : List (Rl × Int)) : Prop := w.ownsRow B 59 4 v l.length (ttCs l)
theorem TRow.nil (w : World) (B : Nat) : TRow w B (.slice none 0 0) [] := World.ownsRow_nil _ _ _ _
theorem TRow.snoc {w : World} {B : Nat} {v : Value} {l : List (Rl × Int)} {x : Rl × Int} (h : w.ownsRow B 59 4 v (l.length + 1) (ttCs l ++ ttC x)) : TRow w B v (l ++ [x]) := by
  have e : ttCs (l ++ [x]) = ttCs l ++ ttC x := by simp [ttCs]
  unfold TRow; rw [e, List.length_append]; exact h
theorem ttC_one (x : Rl × Int) : ∀ u ∈ ttC x, u.oneCell' = true := by
  intro u hu
  simp only [ttC, List.mem_cons, List.not_mem_nil, or_false] at hu
  rcases hu with rfl | rfl | rfl | rfl <;> rfl
theorem IRow.get {w : World} {B : Nat} {ao : Option Addr} {n c : Nat} {L : List Int} (h : IRow w B (.slice ao n c) L) (hl : 0 < L.length) : ∃ g, ao = some ⟨g, 0, none⟩ ∧ g < w.heap.size ∧ ∀ i (hi : i < L.length), w.cell? ⟨g, i, none⟩ = some (.int .i64 L[i]) := by
  rcases h.2 with ⟨_, h0⟩ | ⟨g, c', cur, hv, hg, hh, _⟩
  · omega
  · simp only [Value.slice.injEq] at hv
    refine ⟨g, hv.1, lt_of_block hh, fun i hi => ?_⟩
    have c1 := h.cells (g := g) (by rw [hv.1]; rfl) i (.int .i64 L[i]) (by rw [List.getElem?_map, List.getElem?_eq_getElem hi]; rfl)
    rw [add0, Nat.zero_add] at c1
    exact c1
set_option maxHeartbeats 2000000 in
theorem refStatus_any (g : Nat) (st : Gs) (F : Nat → Prop) (w : World) (h : RGate w g st F) :
    Calls Tryz.prog 35 #[.pointer (some ⟨g, 0, none⟩)] w fun e w' => (∃ v, e = .returned v ∧ TRow w' w.heap.size v (stats st)) ∧ Below w.heap.size w w' := by
  obtain ⟨i0, hi, hz0, hz1, hz2⟩ := info_parts infoStatus
  obtain ⟨ao, cap, hread, _, _⟩ := h.read
  have HG : Hid (GRead w g st.c ao cap st.rts) := hread
  obtain ⟨lo, lc, qs, k7, hqr, hrow0, hsd, _, hgz⟩ := h.said
  have hql : st.rls.length = qs.length := by rw [← hqr, List.length_map]
  rw [hql] at k7 hrow0
  have h24 : qs.length ≤ 24 := by rw [← hql]; exact h.ok.l24
  have HI : Hid (SdIn w lo qs) := SdIn.of hrow0
  have HT : Hid (Tel (qs.map Sd.r)) := by rw [hqr]; exact h.ok.tel
  have HSH : Hid (∀ s ∈ qs, (∃ po pn pc co cn cc, s.v = .slice po pn pc ∧ s.cv = .slice co cn cc) ∧ bl s.ky = kyR s.r) := fun s hs => ⟨(hsd s hs).shape, (hsd s hs).key⟩
  have HD : Hid (∀ s ∈ sortS qs, SdR w (fun b => F b ∧ b ≠ g) s) := fun s hs => by
    have hm := (sortS_perm qs).mem_iff.1 hs
    have hr : s.r ∈ st.rls := by rw [← hqr]; exact List.mem_map_of_mem hm
    exact ⟨hsd s hm, (h.ok.rl _ hr).1, (h.ok.rl _ hr).2.1⟩
  have HF : Hid (∀ b, (F b ∧ b ≠ g) → b < w.heap.size) := fun b hb => h.lt b hb.1
  have HM : Hid ((sortS qs).map Sd.r = sortR st.rls) := by show _ = _; rw [sortS_map, hqr]
  have hsl : (sortS qs).length = qs.length := (sortS_perm qs).length_eq
  have hs24 : (sortS qs).length ≤ 24 := by omega
  clear h hread hqr hsd hql hrow0 hsl
  go_enter Tryz.func35, Tryz.ntmps35
  go_wp2_with fail
  refine (sorted_any g lo lc qs w k7 hgz HI.out HSH.out HT.out h24).mono ?_
  rintro e w1 ⟨⟨v1, rfl, hr1⟩, hb1⟩
  obtain ⟨so, sc, rfl⟩ := ownsRow_shape hr1
  have hz1w := hb1.size
  have HI1 : Hid (SdIn w1 so (sortS qs)) := SdIn.of hr1
  have HST : Hid (stats st = ((sortS qs).map Sd.r).zip (stF st.c st.rts ⟨#[]⟩ 0 false ((sortS qs).map Sd.r))) := by show _ = _; rw [HM.out]; rfl
  have HLN : Hid ((stF st.c st.rts ⟨#[]⟩ 0 false ((sortS qs).map Sd.r)).length = (sortS qs).length) := by show _ = _; rw [stF_len, List.length_map]
  have HC : Hid (Calls Tryz.prog 67 #[.pointer (some ⟨g, 0, none⟩), .slice so (sortS qs).length sc] w1 fun e w' => (∃ v, e = .returned v ∧ IRow w' w1.heap.size v (stF st.c st.rts ⟨#[]⟩ 0 false ((sortS qs).map Sd.r))) ∧ Below w1.heap.size w1 w') := states_any g st.c ao cap st.rts (sortS qs) so sc (fun b => F b ∧ b ≠ g) w1 (HG.out.below hb1) HI1.out (fun s hs => (HD.out s hs).below HF.out hb1) (fun b hb => Nat.lt_of_lt_of_le (HF.out b hb) hz1w) hs24
  generalize sortS qs = L at *
  generalize stF st.c st.rts ⟨#[]⟩ 0 false (L.map Sd.r) = O at *
  clear hr1 HI HT HSH HD HM HG HF
  go_wp2_with fail
  refine HC.out.mono ?_
  rintro e w2 ⟨⟨v2, rfl, hr2⟩, hb2⟩
  obtain ⟨oo, oc, rfl⟩ := ownsRow_shape hr2
  have HI2 : Hid (SdIn w2 so L) := HI1.out.below hb2
  have hz2w := hb2.size
  have hb02 : Below w.heap.size w w2 := hb1.trans (hb2.mono hz1w)
  clear HC HI1
  go_wp2_with fail
  go_loopw [5, 6] (fun v x wr => ∃ (i : Nat) (T : List (Rl × Int)), x = .int .i64 i ∧ i ≤ L.length ∧ TRow wr w2.heap.size v T ∧ Hid (T = ((L.map Sd.r).zip O).take i) ∧ Below w2.heap.size w2 wr) (fun _ x _ => L.length - (intOf x).toNat)
  case atStart => exact ⟨0, [], rfl, Nat.zero_le _, TRow.nil _ _, rfl, Below.refl _ _⟩
  case round =>
    obtain ⟨i, T, rfl, hil, hrow, HT, hbel⟩ := hrel
    obtain ⟨to, tc, rfl⟩ := ownsRow_shape hrow
    have hz := hbel.size
    have hTl : T.length ≤ 24 := by
      rw [HT.out, List.length_take]; omega
    by_cases hlt : i < L.length
    · have hOl : i < O.length := by rw [HLN.out]; exact hlt
      obtain ⟨rk, ro, rfl, bz, c0, c1, c2, _, _, _, _⟩ := HI2.out i hlt
      obtain ⟨ok, rfl, oz, hoc⟩ := hr2.get (by omega)
      have d0 := hoc i hOl
      have hOi : i < ((L.map Sd.r).zip O).length := by rw [List.length_zip, List.length_map]; omega
      have HN : Hid (((L.map Sd.r).zip O).take (i + 1) = ((L.map Sd.r).zip O).take i ++ [(L[i].r, O[i])]) := by
        show _ = _
        rw [List.take_add_one, List.getElem?_eq_getElem hOi]
        simp
      have hOlen : Hid (O.length = L.length) := HLN.out
      generalize L[i] = s at *
      generalize O[i] = sta at *
      have iO : (i : Int) < (O.length : Int) := by omega
      have HS : Hid (∀ w' : World, Below w2.heap.size w2 w' → w'.cell? ⟨rk, ro + i * 7, none⟩ = some (.string s.r.tx) ∧ w'.cell? ⟨rk, ro + i * 7 + 1, none⟩ = some (.int .i64 s.r.pe) ∧ w'.cell? ⟨rk, ro + i * 7 + 2, none⟩ = some (.int .i64 s.r.ac) ∧ w'.cell? ⟨ok, i, none⟩ = some (.int .i64 sta) ∧ Below w2.heap.size w2 w') := fun w' hx =>
        ⟨(hx.cell bz).trans c0, (hx.cell bz).trans c1, (hx.cell bz).trans c2, (hx.cell oz).trans d0, hx⟩
      have h63 : Hid (T.length + 1 ≤ maxLen) := by show _ ≤ _; unfold maxLen; omega
      have hby : Hid ((T.length + 1) * 40 ≤ 140737488355328) := by show _ ≤ _; omega
      clear hoc c0 c1 c2 d0
      go_wp2_with fail
      go_region_held_law (fun w' => w'.cell? ⟨rk, ro + i * 7, none⟩ = some (.string s.r.tx) ∧ w'.cell? ⟨rk, ro + i * 7 + 1, none⟩ = some (.int .i64 s.r.pe) ∧ w'.cell? ⟨rk, ro + i * 7 + 2, none⟩ = some (.int .i64 s.r.ac) ∧ w'.cell? ⟨ok, i, none⟩ = some (.int .i64 sta) ∧ Below w2.heap.size w2 w')
        (first | exact HS.out _ hbel.drew | exact HS.out _ (hbel.alloc hz _).drew | exact HS.out _ ((hbel.alloc hz _).drew.grown hgrow (by simp; omega) (fun k hk => (World.ownsRow.lt hrow k hk).1)))
        ((refine step_append_lies _ (by rfl) _ _ 61 (by rfl) w2.heap.size 59 i0 _ 4 40 Tryz.underlying61 hi hz0 hz1 hz2 rfl (by decide) _ _ _ (by rfl) (ownsRow_below hrow ((Below.refl _ _).alloc (Nat.le_refl _) _).drew) ⟨wr.heap.size, 0, none⟩ 1 1 (ttC (s.r, sta)) (by rfl) rfl (World.news_of_block (heap_alloc_new wr _)) (ttC_one _) (by decide) h63.out hby.out (by simp; omega) _ rfl ?_; intro g' cp w8 hown hgrow hat hlt8))
      have hw8 : Below w2.heap.size w2 w8 := (hbel.alloc hz _).drew.grown hgrow (by simp; omega) (fun k hk => (World.ownsRow.lt hrow k hk).1)
      have HN8 : Hid (T ++ [(s.r, sta)] = ((L.map Sd.r).zip O).take (i + 1)) := by show _ = _; rw [HN.out, ← HT.out]
      have hrow8 := TRow.snoc hown
      clear hown hgrow hat HT HN
      go_wp2_with fail
      go_roundw
      case rel => exact ⟨i + 1, _, by go_num, by omega, hrow8, HN8, hw8⟩
      case measure => simp [intOf]; omega
    · have HX : Hid (T = stats st) := by
        show _ = _
        rw [HT.out, HST.out, List.take_of_length_le]
        rw [List.length_zip, List.length_map]
        omega
      clear HT
      go_wp2_with fail
      go_ret
      exact ⟨⟨_, rfl, by rw [← HX.out]; exact ownsRow_base hrow (by omega)⟩, hb02.trans (hbel.mono (by omega))⟩
end Go.Proofs.YtgkiknfpcbcnnaaGreat
namespace Go.Proofs.YtgkiknfpcbcnnaaGreat
open Go.RowKit
set_option maxRecDepth 20000
def bdS (n : Nat) : Rl × Int := (⟨⟨#[116, 104, 101, 32, 99, 97, 108, 108, 101, 114, 39, 115]⟩, -9 - (n : Int), -9⟩, -9)
theorem badStatus_any (n : Nat) (w : World) (hn : n ≤ 140737488355328) :
    Calls Tryz.prog 15 #[.int .i64 (n : Int)] w fun e w' => e = .returned (.agg #[.string (bdS n).1.tx, .int .i64 (bdS n).1.pe, .int .i64 (bdS n).1.ac, .int .i64 (bdS n).2]) ∧ Below w.heap.size w w' := by
  go_enter Tryz.func15, Tryz.ntmps15
  go_wp2_with fail
  exact bodyPost_ret (v := .agg #[.string ⟨#[116, 104, 101, 32, 99, 97, 108, 108, 101, 114, 39, 115]⟩, .int .i64 (-9 - (n : Int)), .int .i64 (-9), .int .i64 (-9)]) (by simp [results, Tryz.results15, go_sem]) rfl ⟨rfl, below_alloc _ _⟩
theorem some_any (w : World) : Calls Tryz.prog 6 #[] w fun e w' => e = .returned (cfV ⟨3, 2, 1, 1, 2, 3⟩) ∧ Below w.heap.size w w' := by
  go_enter Tryz.func6, Tryz.ntmps6
  go_wp2_with fail
  exact bodyPost_ret (v := .agg #[.int .i64 3, .int .i64 2, .int .i64 1, .int .i64 1, .int .i64 2, .int .i64 3]) (by simp [results, Tryz.results6, go_sem]) rfl ⟨rfl, below_alloc _ _⟩
theorem ttCs_get : ∀ (l : List (Rl × Int)) (i : Nat) (h : i < l.length), (ttCs l)[i * 4]? = some (.string l[i].1.tx) ∧ (ttCs l)[i * 4 + 1]? = some (.int .i64 l[i].1.pe) ∧ (ttCs l)[i * 4 + 2]? = some (.int .i64 l[i].1.ac) ∧ (ttCs l)[i * 4 + 3]? = some (.int .i64 l[i].2) := by
  intro l
  induction l with
  | nil => intro i h; simp at h
  | cons a l ih =>
    intro i h
    have e : ttCs (a :: l) = .string a.1.tx :: .int .i64 a.1.pe :: .int .i64 a.1.ac :: .int .i64 a.2 :: ttCs l := rfl
    rw [e]
    cases i with
    | zero => exact ⟨rfl, rfl, rfl, rfl⟩
    | succ i =>
      have e1 : (i + 1) * 4 = i * 4 + 1 + 1 + 1 + 1 := by omega
      rw [e1]
      simp only [List.getElem?_cons_succ, List.getElem_cons_succ]
      exact ih i (by simpa using h)
theorem TRow.get {w : World} {B : Nat} {ao : Option Addr} {n c : Nat} {L : List (Rl × Int)} (h : TRow w B (.slice ao n c) L) (hl : 0 < L.length) : ∃ g, ao = some ⟨g, 0, none⟩ ∧ g < w.heap.size ∧ ∀ i (hi : i < L.length), w.cell? ⟨g, i * 4, none⟩ = some (.string L[i].1.tx) ∧ w.cell? ⟨g, i * 4 + 1, none⟩ = some (.int .i64 L[i].1.pe) ∧ w.cell? ⟨g, i * 4 + 2, none⟩ = some (.int .i64 L[i].1.ac) ∧ w.cell? ⟨g, i * 4 + 3, none⟩ = some (.int .i64 L[i].2) := by
  rcases h.2 with ⟨_, h0⟩ | ⟨g, c', cur, hv, hg, hh, _⟩
  · omega
  · simp only [Value.slice.injEq] at hv
    refine ⟨g, hv.1, lt_of_block hh, fun i hi => ?_⟩
    obtain ⟨e0, e1, e2, e3⟩ := ttCs_get L i hi
    have k := fun j u hh => h.cells (g := g) (by rw [hv.1]; rfl) j u hh
    have c0 := k _ _ e0
    have c1 := k _ _ e1
    have c2 := k _ _ e2
    have c3 := k _ _ e3
    rw [add0, Nat.zero_add] at c0 c1 c2 c3
    exact ⟨c0, c1, c2, c3⟩
set_option maxHeartbeats 800000 in
/-- Of two rows that tell the same. -/
theorem sameStatuses_any (L : List (Rl × Int)) (ao ao' : Option Addr) (c c' B B' : Nat) (w : World) (h1 : TRow w B (.slice ao L.length c) L) (h2 : TRow w B' (.slice ao' L.length c') L) (h24 : L.length ≤ 24) :
    Calls Tryz.prog 36 #[.slice ao L.length c, .slice ao' L.length c'] w fun e w' => e = .returned (.bool true) ∧ ∃ n, w' = w.drewN n := by
  go_enter Tryz.func36, Tryz.ntmps36
  go_wp2_with fail
  go_loopw [5] (fun x wr => ∃ j n : Nat, x = .int .i64 j ∧ j ≤ L.length ∧ wr = w.drewN n) (fun x _ => L.length - (intOf x).toNat)
  case atStart => exact ⟨0, 0, rfl, Nat.zero_le _, rfl⟩
  case round =>
    obtain ⟨j, n, rfl, hj, rfl⟩ := hrel
    by_cases hlt : j < L.length
    · obtain ⟨g, rfl, _, hc⟩ := h1.get (by omega)
      obtain ⟨g', rfl, _, hc'⟩ := h2.get (by omega)
      obtain ⟨a0, a1, a2, a3⟩ := hc j hlt
      obtain ⟨b0, b1, b2, b3⟩ := hc' j hlt
      clear hc hc' h1 h2
      generalize L[j] = x at *
      go_wp2_with fail
      go_quiet (fail)
      go_wp2_with fail
      go_roundw
      case rel => exact ⟨j + 1, _, by go_num, by omega, rfl⟩
      case measure => simp [intOf]; omega
    · clear h1 h2
      go_wp2_with fail
      go_ret
      exact ⟨rfl, n, rfl⟩
end Go.Proofs.YtgkiknfpcbcnnaaGreat
