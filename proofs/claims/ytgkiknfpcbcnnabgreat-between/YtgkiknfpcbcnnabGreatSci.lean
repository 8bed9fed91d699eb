import Derived.Test.YtgkiknfpcbcnnabGreatScf
import Derived.Test.YtgkiknfpcbcnnabGreatSce
import Derived.Test.YtgkiknfpcbcnnabGreatGt
import Derived.Test.YtgkiknfpcbcnnabGreatGs
namespace Go.Proofs.YtgkiknfpcbcnnabGreat
open Go.RowKit
set_option maxRecDepth 20000

/-- What is asked of a gate that is played, one thing behind the other: its table, then Status. -/
theorem RunI.both {X : XGate} {B : Nat} {w : World} {r x : Nat} {c : Cf} {lk : Bool} {hd : Hd} {gs : Nat → Option Obj} {rts : List Rt} {rls : List Rl} (h : RunI X B w r x c lk hd gs rts rls) :
    Calls Tryz.prog 15 #[.pointer (some ⟨x, 0, none⟩)] w fun e w2 => ∃ ao cap, e = .returned (.slice ao (tabS ⟨c, rts, rls⟩).length cap) ∧ w2.cell? ⟨r, 0, none⟩ = some (.pointer (some ⟨x, 0, none⟩)) ∧ Below B w w2 ∧
      Calls Tryz.prog 10 #[.pointer (some ⟨x, 0, none⟩)] w2 fun e w3 => ∃ so sc, e = .returned (.slice so rls.length sc) ∧ TRow w3 0 (.slice so rls.length sc) (stats ⟨c, rts, rls⟩) ∧ ERow w3 0 (.slice ao (tabS ⟨c, rts, rls⟩).length cap) (tabS ⟨c, rts, rls⟩) ∧ RunI X B w3 r x c lk hd gs rts rls ∧ Below B w2 w3 := by
  obtain ⟨tv, rv, lv, st, F, hj, hs, htt⟩ := h.ex
  have htel := (X.ok hj.inv).tel
  refine (X.table hj.inv).mono ?_
  rintro e w2 ⟨v, F2, rfl, ht, hi2, hF2, hv2, ho2⟩
  obtain ⟨j2, b2⟩ := hj.call ho2 hi2 hF2
  rw [hs.tabS htel] at ht
  obtain ⟨ao, cap, rfl⟩ := ownsRow_shape ht
  refine ⟨ao, cap, rfl, cell_of_row _ r 0 _ _ _ j2.cell, b2, ?_⟩
  refine (X.status j2.inv).mono ?_
  rintro e w3 ⟨v3, F3, rfl, ht3, hi3, hF3, _, ho3⟩
  obtain ⟨j3, b3⟩ := j2.call ho3 hi3 hF3
  rw [hs.stats htel] at ht3
  obtain ⟨so, sc, rfl⟩ := ownsRow_shape ht3
  have hl : (stats ⟨c, rts, rls⟩).length = rls.length := stats_len _
  rw [hl] at ht3 ⊢
  exact ⟨so, sc, rfl, ownsRow_base ht3 (Nat.zero_le _), ownsRow_base (ht.same (fun b hb => ho3.block b (World.ownsRow.lt ht b hb).2 (fun hf => hv2 b hf hb))) (Nat.zero_le _), ⟨tv, rv, lv, st, F3, j3, hs, htt⟩, b3⟩
theorem cbE_in {st : Gs} (h : GsOK st) {x : Rl × Int} (hx : x ∈ stats st) (h3 : x.2 = 3) : cbE x.1.tx = 0 := by
  obtain ⟨i, hi, rfl⟩ := List.getElem_of_mem hx
  obtain ⟨h1, h2, e1, e2⟩ := seg_row st i hi
  have hd : (decS (sortR st.rls)[i].tx).isSome = true := (h.rl _ ((sortR_perm _).mem_iff.1 (List.getElem_mem h1))).2.1
  obtain ⟨last, tot, full, hS⟩ := SegI.ex st.c st.rts (sortR st.rls) i (by omega)
  have ha := hS.at_ h1 h2
  rw [e2] at h3
  rw [h3] at ha
  have hb := (cf_bd h.c).2.2.2
  rw [e1]
  unfold cbE
  rw [hd, if_pos rfl, if_pos]
  unfold st1 at ha
  split at ha
  · split at ha
    · omega
    · split at ha
      · omega
      · rename_i hq
        simp only [Bool.or_eq_true, decide_eq_true_eq, not_or] at hq
        omega
  · omega

set_option maxHeartbeats 3200000 in
theorem entriesLaw_any (X : XGate) (c : Cf) (l : List StS) (ao : Option Addr) (cap : Nat) (w : World) (h : CfI c) (hl : l.length ≤ 9223372036854775807) (hs : StepsB w w.heap.size ao l) :
    Calls Tryz.prog 5 #[cfV c, .slice ao l.length cap] w fun e w' => e = .returned (.bool true) ∧ Below w.heap.size w w' := by
  have HP : Hid (∀ w, StepsB w w.heap.size ao l → Calls Tryz.prog 14 #[cfV c, .slice ao l.length cap, .bool false, .agg #[.int .i64 0, .int .i64 0, .int .i64 0, .int .i64 0, .int .i64 0, .bool false]] w fun e w' => ∃ r x rts rls, e = .returned (.pointer (some ⟨r, 0, none⟩)) ∧ RunI X (w.heap.size + 1 + 1) w' r x (fitC c) false ⟨0, 0, 0, 0, 0, false⟩ gs0 rts rls ∧ Below w.heap.size w w') := fun w hs => tabled_run X (told_off X) (ask_off X) c ⟨0, 0, 0, 0, 0, false⟩ l ao cap w h (by decide) hl hs
  have hs1 := (hs.below ((Below.refl _ w).alloc (Nat.le_refl _) (.cells #[.int .i64 c.cp, .int .i64 c.bu, .int .i64 c.n0, .int .i64 c.n1, .int .i64 c.n2, .int .i64 c.n3] 24))).mono (Nat.le_succ _)
  have HS : Hid (StepsB (w.alloc (.cells #[.int .i64 c.cp, .int .i64 c.bu, .int .i64 c.n0, .int .i64 c.n1, .int .i64 c.n2, .int .i64 c.n3] 24)) (w.heap.size + 1) ao l) := hs1
  clear h hs hl hs1
  unfold cfV
  unfold cfV at HP
  go_enter Tryz.func5, Tryz.ntmps5
  go_wp2_with fail
  refine (HP.out _ (by simp only [World.size_alloc]; exact HS.out)).mono ?_
  rintro e w1 ⟨r, x, rts, rls, rfl, hr1, hb1⟩
  have HB1 : Hid (Below w.heap.size w w1) := (below_alloc w _).trans (hb1.mono (by simp))
  have hBw : w.heap.size ≤ (w.alloc (.cells #[.int .i64 c.cp, .int .i64 c.bu, .int .i64 c.n0, .int .i64 c.n1, .int .i64 c.n2, .int .i64 c.n3] 24)).heap.size + 1 + 1 := by simp only [World.size_alloc]; omega
  generalize (w.alloc (.cells #[.int .i64 c.cp, .int .i64 c.bu, .int .i64 c.n0, .int .i64 c.n1, .int .i64 c.n2, .int .i64 c.n3] 24)).heap.size + 1 + 1 = B at hr1 hBw
  clear HP HS hb1
  have hc0 : w1.cell? ⟨r, 0, none⟩ = some (.pointer (some ⟨x, 0, none⟩)) := by
    obtain ⟨tv, rv, lv, st, F, hj, _, _⟩ := hr1.ex
    exact cell_of_row w1 r 0 _ _ _ hj.cell
  have HBT : Hid (RunI X B w1 r x (fitC c) false ⟨0, 0, 0, 0, 0, false⟩ gs0 rts rls) := hr1
  clear hr1
  go_wp2_with fail
  refine HBT.out.both.mono ?_
  rintro e w2 ⟨to, tc, rfl, k0, hb2, hst⟩
  have HST : Hid (Calls Tryz.prog 10 #[.pointer (some ⟨x, 0, none⟩)] w2 fun e w3 => ∃ so sc, e = .returned (.slice so rls.length sc) ∧ TRow w3 0 (.slice so rls.length sc) (stats ⟨fitC c, rts, rls⟩) ∧ ERow w3 0 (.slice to (tabS ⟨fitC c, rts, rls⟩).length tc) (tabS ⟨fitC c, rts, rls⟩) ∧ RunI X B w3 r x (fitC c) false ⟨0, 0, 0, 0, 0, false⟩ gs0 rts rls ∧ Below B w2 w3) := hst
  clear hst hc0 HBT
  go_wp2_with fail
  refine HST.out.mono ?_
  rintro e w3 ⟨so, sc, rfl, ht3, hE3, hr3, hb3⟩
  have HB3 : Hid (Below w.heap.size w w3) := HB1.out.trans ((hb2.trans hb3).mono hBw)
  have hok := hr3.gok
  have h8 : ∃ lo lc, w3.cell? ⟨r, 8, none⟩ = some (.slice lo rls.length lc) := by
    obtain ⟨tv, rv, lv, st, F, hj, _, _⟩ := hr3.ex
    obtain ⟨ro, rc, lo, lc, _, _, _, _, k8, _⟩ := hj.read
    exact ⟨lo, lc, k8⟩
  obtain ⟨lo, lc, c8⟩ := h8
  have hrz : r < w3.heap.size := by
    obtain ⟨tv, rv, lv, st, F, hj, _, _⟩ := hr3.ex
    exact hj.lt
  have hl24 : rls.length ≤ 24 := hok.l24
  have h128 : (tabL (stats ⟨fitC c, rts, rls⟩)).length ≤ 128 := tabS_len hok
  have HSZ : Hid (∀ x ∈ stats ⟨fitC c, rts, rls⟩, x.1.tx.size ≤ 140737488351232 ∧ (x.2 = 3 → cbE x.1.tx = 0)) := fun x hx => by
    have hm := (List.of_mem_zip (a := x.1) (b := x.2) hx).1
    exact ⟨text_size (hok.rl _ ((sortR_perm _).mem_iff.1 hm)).2.1, fun h3 => cbE_in hok hx h3⟩
  have HE : Hid (EnIn w3 to (tabL (stats ⟨fitC c, rts, rls⟩))) := EnIn.of hE3
  have HTT : Hid (tabS ⟨fitC c, rts, rls⟩ = tabL (stats ⟨fitC c, rts, rls⟩)) := rfl
  have hSl : (stats ⟨fitC c, rts, rls⟩).length = rls.length := stats_len _
  have HSL : Hid ((stats ⟨fitC c, rts, rls⟩).length = rls.length) := hSl
  have HL : Hid (∀ i (hi : i < (stats ⟨fitC c, rts, rls⟩).length), ∃ g, so = some ⟨g, 0, none⟩ ∧ g < w3.heap.size ∧ w3.cell? ⟨g, i * 4, none⟩ = some (.string (stats ⟨fitC c, rts, rls⟩)[i].1.tx) ∧ w3.cell? ⟨g, i * 4 + 2, none⟩ = some (.int .i64 (stats ⟨fitC c, rts, rls⟩)[i].1.ac) ∧ w3.cell? ⟨g, i * 4 + 3, none⟩ = some (.int .i64 (stats ⟨fitC c, rts, rls⟩)[i].2)) := fun i hi => by
    obtain ⟨g, e, hg, hc⟩ := TRow.get ht3 (by omega)
    obtain ⟨d0, d1, d2, d3⟩ := hc i hi
    exact ⟨g, e, hg, d0, d2, d3⟩
  clear ht3 hE3 hr3 hok HST hb2 hb3 k0 HB1 hSl
  rw [HTT.out]
  generalize stats ⟨fitC c, rts, rls⟩ = L at *
  generalize rls.length = n at *
  clear HTT
  go_wp2_with fail
  go_loopw [8, 9] (fun a y wr => ∃ i : Nat, y = .int .i64 i ∧ a = .int .i64 ((tabL (L.take i)).length : Nat) ∧ i ≤ n ∧ Below w3.heap.size w3 wr) (fun _ y _ => n - (intOf y).toNat)
  case atStart => exact ⟨0, rfl, rfl, Nat.zero_le _, Below.refl _ _⟩
  case round =>
    obtain ⟨i, rfl, rfl, hin, hbel⟩ := hrel
    have hz := hbel.size
    by_cases hlt : i < n
    · have hiL : i < L.length := by rw [HSL.out]; exact hlt
      obtain ⟨g, rfl, hgz, d0, d2, d3⟩ := HL.out i hiL
      obtain ⟨z1, z2⟩ := HSZ.out L[i] (List.getElem_mem hiL)
      have HTK : Hid (tabL (L.take (i + 1)) = tabL (L.take i) ++ enOf L[i]) := tabL_take L i hiL
      have hle1 := tabL_le L (i + 1)
      have HPR : Hid (∀ j (hj : j < (tabL (L.take (i + 1))).length), ∃ hj' : j < (tabL L).length, (tabL L)[j] = (tabL (L.take (i + 1)))[j]) := fun j hj => by
        have e : tabL L = tabL (L.take (i + 1)) ++ tabL (L.drop (i + 1)) := by unfold tabL; rw [← List.flatMap_append, List.take_append_drop]
        refine ⟨by omega, ?_⟩
        simp only [e]
        rw [List.getElem_append_left hj]
      generalize L[i] = y at *
      obtain ⟨⟨tx, pe, ac⟩, s⟩ := y
      simp only [] at d0 d2 d3 z1 z2
      have e0 := (hbel.cell (p := ⟨g, i * 4, none⟩) hgz).trans d0
      have e3 := (hbel.cell (p := ⟨g, i * 4 + 3, none⟩) hgz).trans d3
      by_cases hs3 : s = 3
      · subst hs3
        have q3 : ((3 : Int) != 3) = false := by simp
        have hcb := z2 rfl
        have HEN : Hid (enOf (⟨tx, pe, ac⟩, 3) = (cbB tx).map fun b => ⟨b, ac, tx⟩) := rfl
        have HCC : Hid (Calls Tryz.prog 16 #[.string tx] wr fun e w' => CubPost tx wr.heap.size e w' ∧ Below wr.heap.size wr w') := flowCubes_any tx wr z1
        have HCE : Hid (cbE tx = 0) := hcb
        clear z1 z2 hcb
        go_wp2_with (go_at_call 16; refine HCC.out.mono ?_; rintro e w4 ⟨⟨v2, L2, rfl, hr2, hl2⟩, hb4⟩; obtain ⟨cu, cc, rfl⟩ := ownsRow_shape hr2; rw [HCE.out])
        have hL2 : L2 = cbB tx := cbB_of hl2
        rw [← hL2] at HEN
        clear hl2 hL2 HCE HCC
        have HCU : Hid (∀ i (hi : i < L2.length), ∃ g, cu = some ⟨g, 0, none⟩ ∧ g < w4.heap.size ∧ w4.cell? ⟨g, i, none⟩ = some (.string L2[i])) := StrRow.in_ hr2
        have hb34 : Below w3.heap.size w3 w4 := hbel.trans (hb4.mono hz)
        have HA : Hid (∀ k (hk : k < L2.length), ∃ h' : (tabL (L.take i)).length + k < (tabL L).length, (tabL L)[(tabL (L.take i)).length + k] = ⟨L2[k], ac, tx⟩) := fun k hk => by
          have hlen : (tabL (L.take i)).length + k < (tabL (L.take (i + 1))).length := by rw [HTK.out, HEN.out, List.length_append, List.length_map]; omega
          obtain ⟨h', e'⟩ := HPR.out _ hlen
          refine ⟨h', e'.trans ?_⟩
          simp only [HTK.out, HEN.out]
          rw [List.getElem_append_right (by omega)]
          simp
        have HLN : Hid ((tabL (L.take (i + 1))).length = (tabL (L.take i)).length + L2.length) := by show _ = _; rw [HTK.out, HEN.out, List.length_append, List.length_map]
        have hlim : (tabL (L.take i)).length + L2.length ≤ 128 := by rw [← HLN.out]; omega
        clear HTK HEN HPR hle1 hr2
        generalize (tabL (L.take i)).length = at0 at *
        go_wp2_with fail
        go_loopw [8, 12] (fun a y wr => ∃ k : Nat, y = .int .i64 k ∧ a = .int .i64 ((at0 + k : Nat) : Int) ∧ k ≤ L2.length ∧ Below w4.heap.size w4 wr) (fun _ y _ => L2.length - (intOf y).toNat)
        case atStart => exact ⟨0, rfl, rfl, Nat.zero_le _, Below.refl _ _⟩
        case round =>
          obtain ⟨k, rfl, rfl, hkl, hbk⟩ := hrel
          have hzk := hbk.size
          by_cases hlt' : k < L2.length
          · obtain ⟨cg, rfl, hcg, f0⟩ := HCU.out k hlt'
            obtain ⟨hT, eT⟩ := HA.out k hlt'
            obtain ⟨tg, rfl, htg, t0, t1, t2⟩ := HE.out.below (hb34.trans (hbk.mono hb34.size)) (at0 + k) hT
            rw [eT] at t0 t1 t2
            simp only [] at t0 t1 t2
            have f0' := (hbk.cell (p := ⟨cg, k, none⟩) hcg).trans f0
            have b3k : Below w3.heap.size w3 wr := hb34.trans (hbk.mono hb34.size)
            have f2 := (b3k.cell (p := ⟨g, i * 4 + 2, none⟩) hgz).trans d2
            have f1 := (b3k.cell (p := ⟨g, i * 4, none⟩) hgz).trans d0
            generalize L2[k] = cb at *
            have ik : (k : Int) < (L2.length : Int) := by omega
            have ii : (i : Int) < (n : Int) := by omega
            clear eT f0 d0 d2 d3
            obtain ⟨m, hm⟩ : ∃ m, m = at0 + k := ⟨_, rfl⟩
            have HM : Hid (at0 + (k + 1) = m + 1) := by show _ = _; omega
            rw [← hm] at t0 t1 t2 hT
            rw [← hm]
            clear hm
            have iT : (m : Int) < ((tabL L).length : Int) := by omega
            have iT2 : decide ((tabL L).length ≤ m) = false := by simp; omega
            go_upto_region 17 with fail
            have hbZ : Below wr.heap.size wr (wr.alloc (.cells #[.string ⟨#[]⟩, .int .i64 0, .string ⟨#[]⟩] 53)) := below_alloc _ _
            have z0 := (hbZ.cell (p := ⟨cg, k, none⟩) (by show cg < wr.heap.size; omega)).trans f0'
            have z1 := (hbZ.cell (p := ⟨g, i * 4, none⟩) (by show g < wr.heap.size; have := b3k.size; omega)).trans f1
            have z2 := (hbZ.cell (p := ⟨g, i * 4 + 2, none⟩) (by show g < wr.heap.size; have := b3k.size; omega)).trans f2
            clear hbZ
            go_region
            all_goals
              have hbA : Below wr.heap.size wr (wr.alloc (.cells #[.string cb, .int .i64 ac, .string tx] 53)) := below_alloc _ _
              have x0 := (hbA.cell (p := ⟨tg, m * 3, none⟩) htg).trans t0
              have x1 := (hbA.cell (p := ⟨tg, m * 3 + 1, none⟩) htg).trans t1
              have x2 := (hbA.cell (p := ⟨tg, m * 3 + 2, none⟩) htg).trans t2
              have y8 := (hbA.cell (p := ⟨r, 8, none⟩) (by show r < wr.heap.size; have := b3k.size; omega)).trans ((b3k.cell (p := ⟨r, 8, none⟩) hrz).trans c8)
              clear z0 z1 z2 f0' f1 f2 t0 t1 t2 y8
              go_wp2_with fail
              go_quiet (fail)
              go_wp2_with fail
              go_roundw
              case rel => exact ⟨k + 1, by go_num, by rw [HM.out]; go_num, by omega, below_drewN (hbk.alloc hzk _) _⟩
              case measure => simp [intOf]; omega
          · obtain rfl : k = L2.length := by omega
            clear HA HCU
            go_wp2_with fail
            go_roundw
            case rel => exact ⟨i + 1, by go_num, by rw [HLN.out], by omega, hb34.trans (hbk.mono hb34.size)⟩
            case measure => simp [intOf]; omega
      · have q3 : (s != 3) = true := by simpa using hs3
        have HN : Hid ((tabL (L.take (i + 1))).length = (tabL (L.take i)).length) := by
          show _ = _
          rw [HTK.out]
          simp [enOf, hs3]
        clear HTK HPR hs3 z2
        go_wp2_with fail
        go_roundw
        case rel => exact ⟨i + 1, by go_num, by rw [HN.out], by omega, hbel⟩
        case measure => simp [intOf]; omega
    · obtain rfl : i = n := by omega
      have HN : Hid (L.take i = L) := by show _ = _; rw [List.take_of_length_le (by rw [HSL.out]; exact Nat.le_refl _)]
      rw [HN.out]
      have k8 := (hbel.cell (p := ⟨r, 8, none⟩) hrz).trans c8
      have g1 : (((tabL L).length : Int) == ((tabL L).length : Int)) = true := by simp
      have g2 : ((i : Int) == (i : Int)) = true := by simp
      go_wp2_with fail
      go_ret
      exact ⟨rfl, HB3.out.trans (hbel.mono HB3.out.size)⟩
end Go.Proofs.YtgkiknfpcbcnnabGreat

namespace Go.Proofs.YtgkiknfpcbcnnabGreat
open Go.RowKit
set_option maxRecDepth 20000

theorem find_map_ent (L : List ByteArray) (ac : Int) (tx : ByteArray) (b : List UInt8) : ((L.map fun c => (⟨c, ac, tx⟩ : En)).find? fun e => fitL (bl e.bt) b) = (L.find? fun c => fitL (bl c) b).map fun c => ⟨c, ac, tx⟩ := by
  rw [List.find?_map]
  rfl
/-- The first entry that fits is one of the first rule that is In and matches (P5, P7, P14). -/
theorem firA_step {L : List (Rl × Int)} {i : Nat} (hi : i < L.length) (hd : (decS L[i].1.tx).isSome = true) (hn : L[i].2 = 3 → cbE L[i].1.tx = 0) {h : Hd} (hh : hdOK h = true) :
    firA (tabL (L.drop i)) (hbL h) = if mB L[i].1.tx h = true ∧ L[i].2 = 3 then L[i].1.ac else firA (tabL (L.drop (i + 1))) (hbL h) := by
  have e : tabL (L.drop i) = enOf L[i] ++ tabL (L.drop (i + 1)) := by
    rw [List.drop_eq_getElem_cons hi]; rfl
  have hmb := (mB_some hd hh).1
  rw [hmb, e]
  unfold firA
  rw [List.find?_append]
  by_cases h3 : L[i].2 = 3
  · have hce := hn h3
    have hcb : cbL L[i].1.tx = cubS (dS L[i].1.tx) := by
      unfold cbE at hce
      rw [hd, if_pos rfl] at hce
      unfold cbL
      rw [if_pos]
      rw [hd, Bool.true_and, decide_eq_true_eq]
      split at hce
      · assumption
      · omega
    obtain ⟨ps, hps⟩ := Option.isSome_iff_exists.1 hd
    have hR := (decS_sound _ ps hps).1
    have hds : dS L[i].1.tx = ps := by unfold dS; rw [hps]; rfl
    have hcount := cubS_count ps hR h hh
    have hen : enOf L[i] = (cbB L[i].1.tx).map fun c => ⟨c, L[i].1.ac, L[i].1.tx⟩ := by unfold enOf; rw [if_pos h3]
    rw [hen, find_map_ent]
    have hc2 : (cbB L[i].1.tx).countP (fun c => fitL (bl c) (hbL h)) = (cubS ps).countP (fun c => fitL c (hbL h)) := by
      rw [← hds, ← hcb, ← cbB_bl, List.countP_map]
      rfl
    rw [hds]
    cases hall : ps.all (ptM · h)
    · rw [hall] at hcount
      have hnone : (cbB L[i].1.tx).find? (fun c => fitL (bl c) (hbL h)) = none := by
        rw [List.find?_eq_none]
        rw [hcount] at hc2
        have := List.countP_eq_zero.1 hc2
        exact this
      rw [hnone]
      simp
    · rw [hall] at hcount
      obtain ⟨x, hx⟩ : ∃ x, (cbB L[i].1.tx).find? (fun c => fitL (bl c) (hbL h)) = some x := by
        cases hf : (cbB L[i].1.tx).find? (fun c => fitL (bl c) (hbL h)) with
        | some x => exact ⟨x, rfl⟩
        | none =>
          rw [List.find?_eq_none] at hf
          have := List.countP_eq_zero.2 hf
          rw [this, hcount] at hc2
          simp at hc2
      rw [hx]
      simp [h3]
  · have hen : enOf L[i] = [] := by unfold enOf; rw [if_neg h3]
    rw [hen, if_neg (fun hc => h3 hc.2)]
    simp

theorem hd_ok {n1 n2 n3 n4 n5 : Nat} {la : Bool} (l1 : n1 ≤ 65535) (l2 : n2 ≤ 65535) (l3 : n3 ≤ 255) (l4 : n4 ≤ 65535) (l5 : n5 ≤ 255) : hdOK ⟨n1, n2, n3, n4, n5, la⟩ = true := by
  unfold hdOK
  simp only [Bool.and_eq_true]
  exact ⟨⟨⟨⟨isN_of (by omega) (by omega), isN_of (by omega) (by omega)⟩, isN_of (by omega) (by omega)⟩, isN_of (by omega) (by omega)⟩, isN_of (by omega) (by omega)⟩
/-- The cells of a header that lies in a variable. -/
def HdVar (w : World) (k : Nat) (h : Hd) : Prop := w.heap[k]? = some (.cells #[.int .i64 h.ds, .int .i64 h.sr, .int .i64 h.pr, .int .i64 h.po, .int .i64 h.fl, .bool h.la] 33 (0, 0))
theorem HdVar.get {w : World} {k : Nat} {h : Hd} (hv : HdVar w k h) : w.cell? ⟨k, 0, none⟩ = some (.int .i64 h.ds) ∧ w.cell? ⟨k, 1, none⟩ = some (.int .i64 h.sr) ∧ w.cell? ⟨k, 2, none⟩ = some (.int .i64 h.pr) ∧ w.cell? ⟨k, 3, none⟩ = some (.int .i64 h.po) ∧ w.cell? ⟨k, 4, none⟩ = some (.int .i64 h.fl) ∧ w.cell? ⟨k, 5, none⟩ = some (.bool h.la) :=
  ⟨cell_of_row w k 0 _ _ _ hv, cell_of_row w k 1 _ _ _ hv, cell_of_row w k 2 _ _ _ hv, cell_of_row w k 3 _ _ _ hv, cell_of_row w k 4 _ _ _ hv, cell_of_row w k 5 _ _ _ hv⟩

set_option maxHeartbeats 3200000 in
theorem firstLaw_any (X : XGate) (c : Cf) (l : List StS) (ao bo : Option Addr) (cap m bc : Nat) (w : World) (h : CfI c) (hl : l.length ≤ 9223372036854775807) (hs : StepsB w w.heap.size ao l) (hm : m ≤ 9223372036854775807) (hb : IntsAt w bo m) :
    Calls Tryz.prog 6 #[cfV c, .slice ao l.length cap, .slice bo m bc] w fun e w' => e = .returned (.bool true) ∧ Below w.heap.size w w' := by
  have HP : Hid (∀ (hd : Hd) w, hdOK hd = true → StepsB w w.heap.size ao l → Calls Tryz.prog 14 #[cfV c, .slice ao l.length cap, .bool false, .agg #[.int .i64 hd.ds, .int .i64 hd.sr, .int .i64 hd.pr, .int .i64 hd.po, .int .i64 hd.fl, .bool hd.la]] w fun e w' => ∃ r x rts rls, e = .returned (.pointer (some ⟨r, 0, none⟩)) ∧ RunI X (w.heap.size + 1 + 1) w' r x (fitC c) false hd gs0 rts rls ∧ Below w.heap.size w w') := fun hd w hk hs => tabled_run X (told_off X) (ask_off X) c hd l ao cap w h hk hl hs
  have HS : Hid (StepsB w w.heap.size ao l) := hs
  have HH : Hid (∀ w', Below w.heap.size w w' → Calls Tryz.prog 17 #[.slice bo m bc] w' fun e w'' => (∃ hd : Hd, e = .returned (.agg #[.int .i64 hd.ds, .int .i64 hd.sr, .int .i64 hd.pr, .int .i64 hd.po, .int .i64 hd.fl, .bool hd.la]) ∧ hdOK hd = true) ∧ Below w'.heap.size w' w'') := fun w' hw => by
    refine (header_any bo m bc w' hm (hb.below0 hw)).mono ?_
    rintro e w'' ⟨⟨n1, n2, n3, n4, n5, la, rfl, l1, l2, l3, l4, l5⟩, hb1⟩
    exact ⟨⟨⟨n1, n2, n3, n4, n5, la⟩, rfl, hd_ok l1 l2 l3 l4 l5⟩, hb1⟩
  clear h hs hl hm hb
  unfold cfV
  unfold cfV at HP
  go_enter Tryz.func6, Tryz.ntmps6
  go_wp2_with fail
  refine (HH.out _ (below_alloc _ _)).mono ?_
  rintro e w1 ⟨⟨hd, rfl, hk⟩, hb1⟩
  have HK : Hid (hdOK hd = true) := hk
  obtain ⟨W, hW⟩ : ∃ W, W = w1.alloc (.cells #[.int .i64 hd.ds, .int .i64 hd.sr, .int .i64 hd.pr, .int .i64 hd.po, .int .i64 hd.fl, .bool hd.la] 33) := ⟨_, rfl⟩
  have HWE : Hid (W = w1.alloc (.cells #[.int .i64 hd.ds, .int .i64 hd.sr, .int .i64 hd.pr, .int .i64 hd.po, .int .i64 hd.fl, .bool hd.la] 33)) := hW
  have hbW1 : Below w1.heap.size w1 W := by rw [hW]; exact below_alloc _ _
  have hvW : HdVar W w1.heap.size hd := by show _ = _; rw [hW]; exact heap_alloc_new w1 _
  have hbW : Below w.heap.size w W := (below_first hb1).trans (hbW1.mono (below_first hb1).size)
  have hb1W : Below (w.alloc (.cells #[.int .i64 c.cp, .int .i64 c.bu, .int .i64 c.n0, .int .i64 c.n1, .int .i64 c.n2, .int .i64 c.n3] 24)).heap.size (w.alloc (.cells #[.int .i64 c.cp, .int .i64 c.bu, .int .i64 c.n0, .int .i64 c.n1, .int .i64 c.n2, .int .i64 c.n3] 24)) W := hb1.trans (hbW1.mono hb1.size)
  have HVW : Hid (HdVar W w1.heap.size hd) := hvW
  have hkz : w1.heap.size < W.heap.size := lt_of_block hvW
  obtain ⟨p0, p1, p2, p3, p4, p5, pz⟩ := cells_six hb1W
  obtain ⟨v0, v1, v2, v3, v4, v5⟩ := hvW.get
  clear hk hW hvW hb1 hb1W hbW1 HH
  rw [HWE.out] at v0 v1 v2 v3 v4 v5 p0 p1 p2 p3 p4 p5
  go_wp2_with fail
  rw [← HWE.out]
  clear v0 v1 v2 v3 v4 v5 p0 p1 p2 p3 p4 p5 pz
  refine (HP.out hd W HK.out ((HS.out.below hbW).mono hbW.size)).mono ?_
  rintro e w2 ⟨r, x, rts, rls, rfl, hr2, hb2⟩
  have hBW : W.heap.size ≤ W.heap.size + 1 + 1 := by omega
  have HB2 : Hid (Below w.heap.size w w2) := hbW.trans (hb2.mono hbW.size)
  have HV2 : Hid (HdVar w2 w1.heap.size hd) := (hb2.block _ hkz).trans HVW.out
  generalize hB : W.heap.size + 1 + 1 = B at hr2 hBW
  have hBw : w.heap.size ≤ B := by have := hbW.size; omega
  have hkB : w1.heap.size < B := by omega
  have HR2 : Hid (RunI X B w2 r x (fitC c) false hd gs0 rts rls) := hr2
  have HX : Hid (∀ {W : World}, RunI X B W r x (fitC c) false hd gs0 rts rls → W.cell? ⟨r, 0, none⟩ = some (.pointer (some ⟨x, 0, none⟩))) := fun h => by
    obtain ⟨tv, rv, lv, st, F, hj, _, _⟩ := h.ex
    exact cell_of_row _ r 0 _ _ _ hj.cell
  have hok := hr2.gok
  have HOK : Hid (GsOK ⟨fitC c, rts, rls⟩) := hok
  have h24 : rls.length ≤ 24 := hok.l24
  obtain ⟨FA, hFA⟩ : ∃ FA, FA = lkA (tabS ⟨fitC c, rts, rls⟩) hd := ⟨_, rfl⟩
  have HFA : Hid (FA = firA (tabL (stats ⟨fitC c, rts, rls⟩)) (hbL hd)) := by show _ = _; rw [hFA]; unfold lkA tabS; rw [HK.out]; rfl
  have HLK : Hid (∀ W', Below w2.heap.size w2 W' → Calls Tryz.prog 18 #[.pointer (some ⟨x, 0, none⟩), .agg #[.int .i64 hd.ds, .int .i64 hd.sr, .int .i64 hd.pr, .int .i64 hd.po, .int .i64 hd.fl, .bool hd.la]] W' fun e w' => e = .returned (.tuple #[.int .i64 FA, .int .i64 0]) ∧ RunI X B w' r x (fitC c) false hd gs0 rts rls ∧ Below B w2 w') := fun W' hW' => by
    have h3 := (HR2.out.below hW').lookup hd
    unfold hdV at h3
    rw [← hFA, show lkE hd = 0 by unfold lkE; rw [HK.out]; rfl] at h3
    exact h3.mono fun e w' h4 => ⟨h4.1, h4.2.1, (hW'.mono HR2.out.bz).trans h4.2.2⟩
  have x2 := HX.out hr2
  obtain ⟨v0, v1, v2, v3, v4, v5⟩ := HV2.out.get
  clear hr2 hb2 hok hB hFA HP HS HWE hbW HVW hBW
  go_upto_region 5 with fail
  go_region_held3 (fun W' => W'.cell? ⟨r, 0, none⟩ = some (.pointer (some ⟨x, 0, none⟩)) ∧ W'.cell? ⟨w1.heap.size, 0, none⟩ = some (.int .i64 hd.ds) ∧ W'.cell? ⟨w1.heap.size, 1, none⟩ = some (.int .i64 hd.sr) ∧ W'.cell? ⟨w1.heap.size, 2, none⟩ = some (.int .i64 hd.pr) ∧ W'.cell? ⟨w1.heap.size, 3, none⟩ = some (.int .i64 hd.po) ∧ W'.cell? ⟨w1.heap.size, 4, none⟩ = some (.int .i64 hd.fl) ∧ W'.cell? ⟨w1.heap.size, 5, none⟩ = some (.bool hd.la))
    (first | assumption | exact ⟨x2, v0, v1, v2, v3, v4, v5⟩)
    (first | (go_at_call 18; refine (HLK.out _ ?_).mono ?_; (exact (Below.refl _ _).drew); rintro e w3 ⟨rfl, r3, b3⟩; have hS3 : w3.cell? ⟨r, 0, none⟩ = some (.pointer (some ⟨x, 0, none⟩)) ∧ w3.cell? ⟨w1.heap.size, 0, none⟩ = some (.int .i64 hd.ds) ∧ w3.cell? ⟨w1.heap.size, 1, none⟩ = some (.int .i64 hd.sr) ∧ w3.cell? ⟨w1.heap.size, 2, none⟩ = some (.int .i64 hd.pr) ∧ w3.cell? ⟨w1.heap.size, 3, none⟩ = some (.int .i64 hd.po) ∧ w3.cell? ⟨w1.heap.size, 4, none⟩ = some (.int .i64 hd.fl) ∧ w3.cell? ⟨w1.heap.size, 5, none⟩ = some (.bool hd.la) := ⟨HX.out r3, (HdVar.get (show HdVar w3 w1.heap.size hd from (b3.block _ hkB).trans HV2.out))⟩))
  have R3 : Hid (RunI X B w3 r x (fitC c) false hd gs0 rts rls) := r3
  have HB3 : Hid (Below w.heap.size w w3) := HB2.out.trans (b3.mono hBw)
  have HV3 : Hid (HdVar w3 w1.heap.size hd) := (b3.block _ hkB).trans HV2.out
  have x3 := HX.out r3
  clear r3 hS3 b3 HB2 HV2 HLK x2 v0 v1 v2 v3 v4 v5
  go_wp2_with fail
  refine (R3.out.status).mono ?_
  rintro e w4 ⟨so, sc, rfl, ht4, hr4, hb4⟩
  have HB4 : Hid (Below w.heap.size w w4) := HB3.out.trans (hb4.mono hBw)
  have HV4 : Hid (HdVar w4 w1.heap.size hd) := (hb4.block _ hkB).trans HV3.out
  have hkz4 : w1.heap.size < w4.heap.size := lt_of_block HV4.out
  have h8 : ∃ lo lc, w4.cell? ⟨r, 8, none⟩ = some (.slice lo rls.length lc) := by
    obtain ⟨tv, rv, lv, st, F, hj, _, _⟩ := hr4.ex
    obtain ⟨ro, rc, lo, lc, _, _, _, _, k8, _⟩ := hj.read
    exact ⟨lo, lc, k8⟩
  obtain ⟨lo, lc, c8⟩ := h8
  have hSl : (stats ⟨fitC c, rts, rls⟩).length = rls.length := stats_len _
  have HSL : Hid ((stats ⟨fitC c, rts, rls⟩).length = rls.length) := hSl
  have HL : Hid (∀ i (hi : i < (stats ⟨fitC c, rts, rls⟩).length), ∃ g, so = some ⟨g, 0, none⟩ ∧ g < w4.heap.size ∧ w4.cell? ⟨g, i * 4, none⟩ = some (.string (stats ⟨fitC c, rts, rls⟩)[i].1.tx) ∧ w4.cell? ⟨g, i * 4 + 2, none⟩ = some (.int .i64 (stats ⟨fitC c, rts, rls⟩)[i].1.ac) ∧ w4.cell? ⟨g, i * 4 + 3, none⟩ = some (.int .i64 (stats ⟨fitC c, rts, rls⟩)[i].2)) := fun i hi => by
    obtain ⟨g, e, hg, hc⟩ := TRow.get ht4 (by omega)
    obtain ⟨d0, d1, d2, d3⟩ := hc i hi
    exact ⟨g, e, hg, d0, d2, d3⟩
  have HSZ : Hid (∀ i (hi : i < (stats ⟨fitC c, rts, rls⟩).length), (decS (stats ⟨fitC c, rts, rls⟩)[i].1.tx).isSome = true ∧ ((stats ⟨fitC c, rts, rls⟩)[i].2 = 3 → cbE (stats ⟨fitC c, rts, rls⟩)[i].1.tx = 0)) := fun i hi =>
    ⟨(HOK.out.rl _ (stats_mem _ i hi)).2.1, fun h3 => cbE_in HOK.out (List.getElem_mem hi) h3⟩
  clear ht4 hr4 HOK R3 HB3 HV3 x3 hb4 hSl HX
  generalize stats ⟨fitC c, rts, rls⟩ = L at *
  generalize rls.length = n at *
  have g0 : ((n : Int) != (n : Int)) = false := by simp
  go_wp2_with fail
  go_loopw [12] (fun y wr => ∃ i : Nat, y = .int .i64 i ∧ i ≤ n ∧ Hid (FA = firA (tabL (L.drop i)) (hbL hd)) ∧ Below w4.heap.size w4 wr) (fun y _ => n - (intOf y).toNat)
  case atStart => exact ⟨0, rfl, Nat.zero_le _, HFA, Below.refl _ _⟩
  case round =>
    clear HFA
    obtain ⟨i, rfl, hin, HF, hbel⟩ := hrel
    have hz := hbel.size
    by_cases hlt : i < n
    · have hiL : i < L.length := by rw [HSL.out]; exact hlt
      obtain ⟨g, rfl, hgz, d0, d2, d3⟩ := HL.out i hiL
      obtain ⟨z1, z2⟩ := HSZ.out i hiL
      have HST : Hid (firA (tabL (L.drop i)) (hbL hd) = if mB L[i].1.tx hd = true ∧ L[i].2 = 3 then L[i].1.ac else firA (tabL (L.drop (i + 1))) (hbL hd)) := firA_step hiL z1 z2 HK.out
      have hmt := fun W => match_any L[i].1.tx hd W (text_size z1)
      have hmE := (mB_some z1 HK.out).2.1
      rw [hmE] at hmt
      generalize L[i] = y at *
      obtain ⟨⟨tx, pe, ac⟩, s⟩ := y
      simp only [] at d0 d2 d3 HST hmt
      have HMT : Hid (∀ W, Below w4.heap.size w4 W → Calls Tryz.prog 19 #[.string tx, .agg #[.int .i64 hd.ds, .int .i64 hd.sr, .int .i64 hd.pr, .int .i64 hd.po, .int .i64 hd.fl, .bool hd.la]] W fun e w' => e = .returned (.tuple #[.bool (mB tx hd), .int .i64 0]) ∧ Below w4.heap.size w4 w') := fun W hW => (hmt W).mono fun _ _ h' => ⟨h'.1, hW.trans (h'.2.mono hW.size)⟩
      have HSS : Hid (∀ W, Below w4.heap.size w4 W → W.cell? ⟨g, i * 4, none⟩ = some (.string tx) ∧ W.cell? ⟨w1.heap.size, 0, none⟩ = some (.int .i64 hd.ds) ∧ W.cell? ⟨w1.heap.size, 1, none⟩ = some (.int .i64 hd.sr) ∧ W.cell? ⟨w1.heap.size, 2, none⟩ = some (.int .i64 hd.pr) ∧ W.cell? ⟨w1.heap.size, 3, none⟩ = some (.int .i64 hd.po) ∧ W.cell? ⟨w1.heap.size, 4, none⟩ = some (.int .i64 hd.fl) ∧ W.cell? ⟨w1.heap.size, 5, none⟩ = some (.bool hd.la) ∧ Below w4.heap.size w4 W) := fun W hW => by
        obtain ⟨q0, q1, q2, q3, q4, q5⟩ := HdVar.get (show HdVar W w1.heap.size hd from (hW.block _ hkz4).trans HV4.out)
        exact ⟨(hW.cell (p := ⟨g, i * 4, none⟩) hgz).trans d0, q0, q1, q2, q3, q4, q5, hW⟩
      have HDD : Hid (∀ W, Below w4.heap.size w4 W → W.cell? ⟨g, i * 4 + 2, none⟩ = some (.int .i64 ac) ∧ W.cell? ⟨g, i * 4 + 3, none⟩ = some (.int .i64 s)) := fun W hW => ⟨(hW.cell (p := ⟨g, i * 4 + 2, none⟩) hgz).trans d2, (hW.cell (p := ⟨g, i * 4 + 3, none⟩) hgz).trans d3⟩
      obtain ⟨q0, q1, q2, q3, q4, q5, q6, _⟩ := HSS.out wr hbel
      clear z1 z2 hmt hmE d0 d2 d3
      generalize mB tx hd = mt at *
      have iin : (i : Int) < (n : Int) := by omega
      go_upto_region 12 with fail
      go_region_held3 (fun W => W.cell? ⟨g, i * 4, none⟩ = some (.string tx) ∧ W.cell? ⟨w1.heap.size, 0, none⟩ = some (.int .i64 hd.ds) ∧ W.cell? ⟨w1.heap.size, 1, none⟩ = some (.int .i64 hd.sr) ∧ W.cell? ⟨w1.heap.size, 2, none⟩ = some (.int .i64 hd.pr) ∧ W.cell? ⟨w1.heap.size, 3, none⟩ = some (.int .i64 hd.po) ∧ W.cell? ⟨w1.heap.size, 4, none⟩ = some (.int .i64 hd.fl) ∧ W.cell? ⟨w1.heap.size, 5, none⟩ = some (.bool hd.la) ∧ Below w4.heap.size w4 W)
        (first | exact HSS.out _ (by assumption) | exact HSS.out _ hbel.drew)
        (first | (go_at_call 19; refine (HMT.out _ ?_).mono ?_; (exact hbel.drew); rintro e w5 ⟨rfl, hb45⟩))
      obtain ⟨e2, e3⟩ := HDD.out w5 hb45
      clear q0 q1 q2 q3 q4 q5 q6
      cases mt
      · have HN : Hid (FA = firA (tabL (L.drop (i + 1))) (hbL hd)) := by show _ = _; rw [HF.out, HST.out, if_neg (fun h => by cases h.1)]
        clear HF HST
        go_wp2_with fail
        go_roundw
        case rel => exact ⟨i + 1, by go_num, by omega, HN, hb45⟩
        case measure => simp [intOf]; omega
      · by_cases h3 : s = 3
        · subst h3
          obtain rfl : FA = ac := by rw [HF.out, HST.out, if_pos ⟨rfl, rfl⟩]
          have g1 : (FA == FA) = true := by simp
          clear HF HST
          go_wp2_with fail
          go_ret
          exact ⟨rfl, HB4.out.trans (hb45.mono HB4.out.size)⟩
        · have HN : Hid (FA = firA (tabL (L.drop (i + 1))) (hbL hd)) := by show _ = _; rw [HF.out, HST.out, if_neg (fun h => h3 h.2)]
          have g1 : (s == 3) = false := by simpa using h3
          clear HF HST h3
          go_wp2_with fail
          go_roundw
          case rel => exact ⟨i + 1, by go_num, by omega, HN, hb45⟩
          case measure => simp [intOf]; omega
    · obtain rfl : FA = 0 := by rw [HF.out, List.drop_of_length_le (by rw [HSL.out]; omega)]; rfl
      clear HF
      go_wp2_with fail
      go_ret
      exact ⟨rfl, HB4.out.trans (hbel.mono HB4.out.size)⟩
end Go.Proofs.YtgkiknfpcbcnnabGreat
