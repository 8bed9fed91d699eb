import Derived.Test.YtgkiknfpcbcnnabGreatBta
import Derived.Test.YtgkiknfpcbcnnabGreatSca
import Derived.Deep.AppendLies
import Derived.BigQuiet
namespace Go.Proofs.YtgkiknfpcbcnnabGreat
open Go.RowKit
set_option maxRecDepth 20000

theorem infoEnts : (Tryz.prog.info? 34).map (fun i => (i.zero, i.size, i.bytes)) = some (some (.slice none 0 0), 1, 24) := by kernel_rfl
/-- The bits of a header, as the keeper writes them. -/
theorem keepBits_any (h : Hd) (w : World) (hh : hdOK h = true) :
    Calls Tryz.prog 48 #[.agg #[.int .i64 h.ds, .int .i64 h.sr, .int .i64 h.pr, .int .i64 h.po, .int .i64 h.fl, .bool h.la]] w fun e w' => (∃ B : ByteArray, e = .returned (.string B) ∧ bl B = hbL h) ∧ Below w.heap.size w w' := by
  unfold hdOK at hh
  simp only [Bool.and_eq_true] at hh
  obtain ⟨⟨⟨⟨h1, h2⟩, h3⟩, h4⟩, h5⟩ := hh
  have b1 := isN_bd h1
  have b2 := isN_bd h2
  have b3 := isN_bd h3
  have b4 := isN_bd h4
  have b5 := isN_bd h5
  obtain ⟨ds, sr, pr, po, fl, la⟩ := h
  simp only [] at b1 b2 b3 b4 b5
  obtain ⟨n1, rfl⟩ := Int.eq_ofNat_of_zero_le b1.1
  obtain ⟨n2, rfl⟩ := Int.eq_ofNat_of_zero_le b2.1
  obtain ⟨n3, rfl⟩ := Int.eq_ofNat_of_zero_le b3.1
  obtain ⟨n4, rfl⟩ := Int.eq_ofNat_of_zero_le b4.1
  obtain ⟨n5, rfl⟩ := Int.eq_ofNat_of_zero_le b5.1
  refine (bits_any n1 n2 n3 n4 n5 la w (by omega) (by omega) (by omega) (by omega) (by omega)).mono ?_
  rintro e w' ⟨rfl, hb⟩
  exact ⟨⟨_, rfl, bl_hbB n1 n2 n3 n4 n5 la⟩, hb⟩

section
variable {X : XGate} {B : Nat} {w w' : World} {r x : Nat} {c : Cf} {hd : Hd} {gs : Nat → Option Obj} {tv : Tb} {rv lv : Value} {rts : List Rt} {rls : List Rl} {st : Gs} {F : Nat → Prop}
/-- Another table in its place. -/
theorem RunJ.setT {v : Value} {T : List En} (h : RunJ X B w r x c true hd gs tv rv lv rts rls st F) (hrow : ERow w B v T) (hv : ∀ b, v.ownBlock = some b → ¬ F b ∧ b ≠ r ∧ rv.ownBlock ≠ some b ∧ lv.ownBlock ≠ some b) : RunJ X B (w.setCell ⟨r, 17, none⟩ v) r x c true hd gs ⟨v, T⟩ rv lv rts rls st F := by
  have oth : ∀ b, b ≠ r → (w.setCell ⟨r, 17, none⟩ v).heap[b]? = w.heap[b]? := fun b hne => Below.heap_setCell _ _ _ _ hne
  have hsz : (w.setCell ⟨r, 17, none⟩ v).heap.size = w.heap.size := by simp only [World.setCell, Array.size_modify]
  exact ⟨heap_setCell_same w r 17 _ _ _ h.cell, ownsRow_same h.rrow (fun b hk => oth b (h.rF b hk).2.1), ownsRow_same h.lrow (fun b hk => oth b (h.lF b hk).2), X.same h.inv (by omega) (fun b hf => oth b (fun e => h.nF (e ▸ hf))), h.br, h.nF, h.bF, h.rF, h.lF, fun _ => hrow.same (fun b hk => oth b (hv b hk).2.1), fun _ => hv, h.hok, fun b o hg => ⟨(oth b (h.gst b o hg).2.1).trans (h.gst b o hg).1, (h.gst b o hg).2⟩⟩
/-- What turned reads of a run. -/
theorem RunJ.tread (h : RunJ X B w r x c true hd gs tv rv lv rts rls st F) : ∃ to tc, tv.v = .slice to tv.T.length tc ∧ w.cell? ⟨r, 0, none⟩ = some (.pointer (some ⟨x, 0, none⟩)) ∧ w.cell? ⟨r, 9, none⟩ = some (.bool true) ∧ w.cell? ⟨r, 11, none⟩ = some (.int .i64 hd.ds) ∧ w.cell? ⟨r, 12, none⟩ = some (.int .i64 hd.sr) ∧ w.cell? ⟨r, 13, none⟩ = some (.int .i64 hd.pr) ∧ w.cell? ⟨r, 14, none⟩ = some (.int .i64 hd.po) ∧ w.cell? ⟨r, 15, none⟩ = some (.int .i64 hd.fl) ∧ w.cell? ⟨r, 16, none⟩ = some (.bool hd.la) ∧ w.cell? ⟨r, 17, none⟩ = some (.slice to tv.T.length tc) ∧ (∀ j, w.frozen? ⟨r, j, none⟩ = false) := by
  obtain ⟨to, tc, e⟩ := ownsRow_shape (h.trow rfl)
  have c : ∀ j, w.cell? ⟨r, j, none⟩ = _ := fun j => cell_of_row w r j _ _ _ h.cell
  refine ⟨to, tc, e, c 0, c 9, c 11, c 12, c 13, c 14, c 15, c 16, ?_, fun j => frozen_of_row _ _ _ _ _ h.cell⟩
  rw [c 17]
  simp only [runC]
  rw [e]
  rfl
end

/-- The tables that turned keeps: the value of each, and what it holds. -/
structure TbsI (w : World) (base : Nat) (v : Value) (vals : List Value) (Ts : Nat → List En) : Prop where
  row : w.ownsRow base 34 1 v vals.length vals
  at_ : ∀ j (h : j < vals.length), ∃ so sc, vals[j] = .slice so (Ts j).length sc ∧ ERow w 0 (.slice so (Ts j).length sc) (Ts j) ∧ ∀ b, (Value.slice so (Ts j).length sc).ownBlock = some b → v.ownBlock ≠ some b
theorem TbsI.below {w w' : World} {base : Nat} {v : Value} {vals : List Value} {Ts : Nat → List En} (h : TbsI w base v vals Ts) (hb : Below w.heap.size w w') : TbsI w' base v vals Ts :=
  ⟨ownsRow_below h.row hb, fun j hj => by
    obtain ⟨so, sc, h1, h2, h3⟩ := h.at_ j hj
    exact ⟨so, sc, h1, h2.below hb, h3⟩⟩
end Go.Proofs.YtgkiknfpcbcnnabGreat

namespace Go.Proofs.YtgkiknfpcbcnnabGreat
open Go.RowKit
set_option maxRecDepth 20000

theorem slice_oneV (a : Option Addr) (n c : Nat) : ∀ u ∈ [Value.slice a n c], u.oneCell' = true := by
  intro u hu
  rw [List.mem_singleton.1 hu]
  rfl
theorem drew_two {w w' : World} {a : Nat} (h : ∃ n, w' = (w.drewN a).drewN n) : ∃ n, w' = w.drewN n := by
  obtain ⟨n, rfl⟩ := h
  exact ⟨_, by rw [World.drewN_drewN]⟩
/-- The tables' row, grown by one table. -/
theorem TbsI.grow {w w2 w4 : World} {base g' cp H : Nat} {to : Option Addr} {n tc : Nat} {vals : List Value} {Ts : Nat → List En} (h : TbsI w base (.slice to vals.length tc) vals Ts) (hn : n = vals.length) (hb : Below w.heap.size w w2) {so : Option Addr} {sc : Nat} (hv : ERow w2 w.heap.size (.slice so (Ts n).length sc) (Ts n)) (hgrow : ((w2.alloc (.cells #[.slice so (Ts n).length sc] 34))).grownBy w4 (Value.slice to vals.length tc).ownBlock) (hat : (Value.slice to vals.length tc).ownBlock = some g' ∨ g' = H) (hH2 : (w2.alloc (.cells #[.slice so (Ts n).length sc] 34)).heap.size = H) (hown : w4.ownsRow base 34 1 (.slice (some ⟨g', 0, none⟩) (vals.length + 1) cp) (vals.length + 1) (vals ++ [.slice so (Ts n).length sc])) : TbsI w4 base (.slice (some ⟨g', 0, none⟩) (vals.length + 1) cp) (vals ++ [.slice so (Ts n).length sc]) Ts := by
  have hz := hb.size
  have hz2 : (w2.alloc (.cells #[.slice so (Ts n).length sc] 34)).heap.size = w2.heap.size + 1 := by simp
  have keep : ∀ b, b < w2.heap.size → (Value.slice to vals.length tc).ownBlock ≠ some b → w4.heap[b]? = w2.heap[b]? := fun b hk hne => (hgrow.block b (by omega) (fun e => hne e.symm)).trans (heap_alloc_old w2 _ hk)
  have hown0 : ∀ b, (Value.slice to vals.length tc).ownBlock = some b → b < w.heap.size := fun b hk => (World.ownsRow.lt h.row b hk).2
  refine ⟨by rw [List.length_append]; exact hown, fun j hj => ?_⟩
  have newb : ∀ b, (Value.slice (some (⟨g', 0, none⟩ : Addr)) (vals.length + 1) cp).ownBlock = some b → b = g' := fun b hk => by
    have : g' = b := by simpa [Value.ownBlock] using hk
    exact this.symm
  rw [List.length_append, List.length_singleton] at hj
  by_cases hjv : j < vals.length
  · obtain ⟨so', sc', e1, e2, e3⟩ := h.at_ j hjv
    refine ⟨so', sc', by rw [List.getElem_append_left hjv]; exact e1, (e2.below hb).same (fun b hk => keep b (by have := (World.ownsRow.lt e2 b hk).2; omega) (e3 b hk)), fun b hk hk2 => ?_⟩
    have hbg := newb b hk2
    subst hbg
    rcases hat with hat | hat
    · exact e3 _ hk hat
    · have := (World.ownsRow.lt e2 _ hk).2; omega
  · obtain rfl : j = n := by omega
    subst hn
    refine ⟨so, sc, by rw [List.getElem_append_right (by omega)]; simp, ownsRow_base (hv.same (fun b hk => keep b (World.ownsRow.lt hv b hk).2 (fun e => by have := hown0 b e; have := (World.ownsRow.lt hv b hk).1; omega))) (Nat.zero_le _), fun b hk hk2 => ?_⟩
    have hbg := newb b hk2
    subst hbg
    have hl := World.ownsRow.lt hv _ hk
    rcases hat with hat | hat
    · have := hown0 _ hat; omega
    · omega

set_option maxHeartbeats 1600000 in
theorem turned_any (X : XGate) {B : Nat} {w : World} {r x : Nat} {c : Cf} {hd : Hd} {gs : Nat → Option Obj} {tv : Tb} {rv lv : Value} {rts : List Rt} {rls : List Rl} {st : Gs} {F : Nat → Prop} (h : RunJ X B w r x c true hd gs tv rv lv rts rls st F) (a : Option Addr) (k Bw : Nat) (ws : List Wr) (T1 : List En) (hw : WRow w Bw (.slice a ws.length k) ws) (hok : WrOK tv.T T1 ws) :
    Calls Tryz.prog 70 #[.pointer (some ⟨r, 0, none⟩), .slice a ws.length k] w fun e w' => e = .returned (.tuple #[]) ∧ ToldP X B w r x c true hd gs tv rv lv rts rls st F T1 w' := by
  obtain ⟨i0, hi, hz0, hz1, hz2⟩ := info_parts infoEnts
  have HJ : Hid (RunJ X B w r x c true hd gs tv rv lv rts rls st F) := h
  obtain ⟨to, tc, htv, c0, c9, c11, c12, c13, c14, c15, c16, c17, hfz⟩ := h.tread
  obtain ⟨hnum, hsm, Ts, hT0, hTn, hTs, hTb⟩ := hok
  have hrz := h.lt
  have HHK : Hid (hdOK hd = true) := h.hok rfl
  have HTR : Hid (ERow w B (.slice to tv.T.length tc) tv.T) := by show ERow _ _ _ _; rw [← htv]; exact h.trow rfl
  have HTS : Hid (∀ i (h : i < ws.length), doW (Ts i) ws[i] = some (Ts (i + 1))) := hTs
  have HTB : Hid (∀ i, i ≤ ws.length → (Ts i).length ≤ 256 ∧ ∀ f : En → Bool, (Ts i).find? f = tv.T.find? f ∨ (Ts i).find? f = T1.find? f) := hTb
  have HT0 : Hid (Ts 0 = tv.T) := hT0
  have HTN : Hid (Ts ws.length = T1) := hTn
  have HNM : Hid (ws.length = lacks tv.T T1 + lacks T1 tv.T) := hnum
  have HWR : Hid (WRow w Bw (.slice a ws.length k) ws) := hw
  have HBC : Hid (Calls Tryz.prog 48 #[.agg #[.int .i64 hd.ds, .int .i64 hd.sr, .int .i64 hd.pr, .int .i64 hd.po, .int .i64 hd.fl, .bool hd.la]] w fun e w' => (∃ B : ByteArray, e = .returned (.string B) ∧ bl B = hbL hd) ∧ Below w.heap.size w w') := keepBits_any hd w HHK.out
  have HTV : Hid (tv.v = .slice to tv.T.length tc) := htv
  have hTl : tv.T.length ≤ 256 := by rw [← hT0]; exact (hTb 0 (Nat.zero_le _)).1
  have f9 := hfz 9
  have f17 := hfz 17
  clear h hw hnum hT0 hTn hTs hTb htv hfz
  go_enter Tryz.func70, Tryz.ntmps70
  go_wp2_with fail
  refine HBC.out.mono ?_
  rintro e w1 ⟨⟨bs, rfl, hbs⟩, hb1⟩
  have HBS : Hid (bl bs = hbL hd) := hbs
  have hbsz : bs.size ≤ 1000 := by
    have := congrArg List.length hbs
    rw [bl_len, hbL_len] at this
    omega
  have d17 := (hb1.cell (p := ⟨r, 17, none⟩) hrz).trans c17
  have hz1w := hb1.size
  clear hbs HBC c11 c12 c13 c14 c15 c16
  obtain ⟨wB, hwB⟩ : ∃ wB, wB = w1.alloc (.cells #[.slice to tv.T.length tc] 34) := ⟨_, rfl⟩
  have HWB : Hid (wB = w1.alloc (.cells #[.slice to tv.T.length tc] 34)) := hwB
  have hbB : Below w.heap.size w wB := by rw [hwB]; exact hb1.alloc hz1w _
  have HTI : Hid (TbsI wB w1.heap.size (.slice (some ⟨w1.heap.size, 0, none⟩) 1 1) [.slice to tv.T.length tc] Ts) := by
    refine ⟨?_, fun j hj => ?_⟩
    · show World.ownsRow _ _ _ _ _ 1 _
      rw [hwB]
      exact ⟨rfl, .inr ⟨w1.heap.size, 1, #[.slice to tv.T.length tc], rfl, Nat.le_refl _, heap_alloc_new w1 _, Nat.le_refl _, by unfold maxLen; omega, rfl, rfl⟩⟩
    · simp only [List.length_singleton] at hj
      obtain rfl : j = 0 := by omega
      refine ⟨to, tc, by rw [HT0.out]; rfl, ?_, fun b hk hk2 => ?_⟩
      · rw [HT0.out]
        exact ownsRow_base (HTR.out.below hbB) (Nat.zero_le _)
      · rw [HT0.out] at hk
        have h1 := (World.ownsRow.lt HTR.out b hk).2
        have h2 : w1.heap.size = b := by simpa [Value.ownBlock] using hk2
        omega
  have e17 : wB.cell? ⟨r, 17, none⟩ = some (.slice to tv.T.length tc) := (hbB.cell (p := ⟨r, 17, none⟩) hrz).trans c17
  rw [HWB.out] at e17
  clear hwB
  go_wp2_with fail
  rw [← HWB.out]
  rw [← HWB.out] at e17
  have HWS : Hid (∀ {W : World}, Below w.heap.size w W → ∀ i (hi : i < ws.length), ∃ g, a = some ⟨g, 0, none⟩ ∧ W.cell? ⟨g, i * 5, none⟩ = some (.int .i64 ws[i].kd) ∧ W.cell? ⟨g, i * 5 + 1, none⟩ = some (.int .i64 ws[i].pl) ∧ W.cell? ⟨g, i * 5 + 2, none⟩ = some (.string ws[i].en.bt) ∧ W.cell? ⟨g, i * 5 + 3, none⟩ = some (.int .i64 ws[i].en.ac) ∧ W.cell? ⟨g, i * 5 + 4, none⟩ = some (.string ws[i].en.tx)) := fun {W} hW i hi => by
    obtain ⟨g, e, hg, hc⟩ := HWR.out.get (by omega)
    obtain ⟨q0, q1, q2, q3, q4⟩ := hc i hi
    exact ⟨g, e, (hW.cell (p := ⟨g, i * 5, none⟩) hg).trans q0, (hW.cell (p := ⟨g, i * 5 + 1, none⟩) hg).trans q1, (hW.cell (p := ⟨g, i * 5 + 2, none⟩) hg).trans q2, (hW.cell (p := ⟨g, i * 5 + 3, none⟩) hg).trans q3, (hW.cell (p := ⟨g, i * 5 + 4, none⟩) hg).trans q4⟩
  have hbB1 : Below w1.heap.size w1 wB := by rw [HWB.out]; exact below_alloc _ _
  clear HWR e17 d17 c0 c9
  go_loopw [5, 6, 7, 8] (fun v5 v6 v7 v8 wr => ∃ (i : Nat) (vals : List Value) (lo : Option Addr) (lc : Nat), v6 = .slice lo (Ts i).length lc ∧ v7 = .bool true ∧ v8 = .int .i64 i ∧ i ≤ ws.length ∧ Hid (vals.length = i + 1) ∧ Hid (TbsI wr w1.heap.size v5 vals Ts) ∧ Hid (vals[i]? = some (.slice lo (Ts i).length lc)) ∧ Hid (∀ b, (Value.slice lo (Ts i).length lc).ownBlock = some b → (Value.slice to tv.T.length tc).ownBlock = some b ∨ w.heap.size ≤ b) ∧ Below w1.heap.size w1 wr) (fun _ _ _ v8 _ => ws.length - (intOf v8).toNat)
  case atStart => exact ⟨0, [.slice to tv.T.length tc], to, tc, by rw [HT0.out], rfl, rfl, Nat.zero_le _, rfl, HTI, by show _ = _; rw [HT0.out]; rfl, by intro b hb; rw [HT0.out] at hb; exact .inl hb, hbB1⟩
  case round =>
    clear HTI hbB1
    obtain ⟨i, vals, lo, lc, rfl, rfl, rfl, hil, HVL, HTI, HVI, HLB, hbel⟩ := hrel
    obtain ⟨tbo, tbc, rfl⟩ := ownsRow_shape HTI.out.row
    have hz := hbel.size
    have hbw : Below w.heap.size w wr := hb1.trans (hbel.mono hz1w)
    have hzr := hbw.size
    have hiv : i < vals.length := by rw [HVL.out]; omega
    have HER : Hid (ERow wr 0 (.slice lo (Ts i).length lc) (Ts i) ∧ ∀ b, (Value.slice lo (Ts i).length lc).ownBlock = some b → (Value.slice tbo vals.length tbc).ownBlock ≠ some b) := by
      obtain ⟨so, sc, q1, q2, q3⟩ := HTI.out.at_ i hiv
      have q4 := HVI.out
      rw [List.getElem?_eq_getElem hiv, q1] at q4
      simp only [Option.some.injEq, Value.slice.injEq, true_and] at q4
      obtain ⟨rfl, rfl⟩ := q4
      exact ⟨q2, q3⟩
    have hvl : vals.length ≤ 257 := by rw [HVL.out]; omega
    by_cases hlt : i < ws.length
    · obtain ⟨g, rfl, q0, q1, q2, q3, q4⟩ := HWS.out hbw i hlt
      have hTi := (HTB.out i hil).1
      have hTi1 := (HTB.out (i + 1) (by omega)).1
      have HDN : Hid (Calls Tryz.prog 98 #[.slice lo (Ts i).length lc, .agg #[.int .i64 ws[i].kd, .int .i64 ws[i].pl, .string ws[i].en.bt, .int .i64 ws[i].en.ac, .string ws[i].en.tx]] wr fun e w' => (∃ v', e = .returned (.tuple #[v', .bool true]) ∧ ERow w' wr.heap.size v' (Ts (i + 1))) ∧ Below wr.heap.size wr w') := keepDone_any (Ts i) (Ts (i + 1)) ws[i] _ 0 wr HER.out.1 (HTS.out i hlt) hTi
      generalize ws[i] = x9 at *
      have gl : ((256 : Int) < ((Ts (i + 1)).length : Int)) = False := by simp; omega
      have gl2 : decide (256 < (Ts (i + 1)).length) = false := by simp; omega
      clear hTi gl
      go_wp2_with (first
        | (go_at_call 98; refine HDN.out.mono ?_; rintro e w2 ⟨⟨v2, rfl, hr2⟩, hb2⟩; obtain ⟨so, sc, rfl⟩ := ownsRow_shape hr2; have hz2' := hb2.size; have HR2 : Hid (ERow w2 wr.heap.size (.slice so (Ts (i + 1)).length sc) (Ts (i + 1))) := hr2; clear hr2; have HTI2 : Hid (w2.ownsRow w1.heap.size 34 1 (.slice tbo vals.length tbc) vals.length vals) := ownsRow_below HTI.out.row hb2)
        | (at_builtin; refine wpList_append_lies _ rfl _ _ 165 rfl w1.heap.size 34 i0 _ 1 24 Tryz.underlying165 hi hz0 hz1 hz2 rfl (by decide) (.slice tbo vals.length tbc) vals.length vals rfl (HTI2.out.alloc _) ⟨w2.heap.size, 0, none⟩ 1 1 [.slice so (Ts (i + 1)).length sc] rfl rfl (World.news_of_block (heap_alloc_new w2 _)) (slice_oneV _ _ _) (by decide) (by unfold maxLen; omega) (by omega) (by simp; omega) _ rfl ?_; intro g' cp w4 hown hgrow hat hlt4))
      go_roundw
      case rel =>
        have HG := TbsI.grow HTI.out HVL.out.symm hb2 HR2.out hgrow hat rfl hown
        refine ⟨i + 1, vals ++ [Value.slice so (Ts (i + 1)).length sc], so, sc, rfl, rfl, by go_num, by omega, ?_, HG, ?_, ?_, ?_⟩
        · show _ = _
          rw [List.length_append, HVL.out]
          rfl
        · show _ = _
          rw [List.getElem?_append_right (by rw [HVL.out]; exact Nat.le_refl _), HVL.out]
          simp
        · intro b hb
          have := (World.ownsRow.lt HR2.out b hb).1
          exact .inr (by omega)
        · exact ((hbel.trans (hb2.mono hz)).alloc (by omega) _).grown hgrow (by simp; omega) (fun k hk => (World.ownsRow.lt HTI.out.row k hk).1)
      case measure => simp [intOf]; omega
    · obtain rfl : i = ws.length := by omega
      have e17 := (hbw.cell (p := ⟨r, 17, none⟩) hrz).trans c17
      have h1l : T1.length ≤ 256 := by have := (HTB.out ws.length (Nat.le_refl _)).1; rw [HTN.out] at this; exact this
      have HE0 : Hid (EnIn wr to tv.T) := (EnIn.of HTR.out).below hbw
      have HE1 : Hid (EnIn wr lo T1) := by
        have := EnIn.of HER.out.1
        rw [HTN.out] at this
        exact this
      have HFR : Hid (∀ j (hj : j < vals.length), ∃ so sc, vals[j] = .slice so (Ts j).length sc ∧ EnIn wr so (Ts j) ∧ (Ts j).length ≤ 256 ∧ (firB (Ts j) bs = firB tv.T bs ∨ firB (Ts j) bs = firB T1 bs)) := fun j hj => by
        obtain ⟨so, sc, q1, q2, _⟩ := HTI.out.at_ j hj
        have hjw : j ≤ ws.length := by rw [HVL.out] at hj; omega
        refine ⟨so, sc, q1, EnIn.of q2, (HTB.out j hjw).1, ?_⟩
        unfold firB
        rcases (HTB.out j hjw).2 (fun e => fitZ e.bt bs) with e | e
        · left; rw [e]
        · right; rw [e]
      obtain ⟨tg, rfl, htg, htc⟩ := row_one' HTI.out.row (by omega)
      have HTC : Hid (∀ j (hj : j < vals.length), wr.cell? ⟨tg, j, none⟩ = some vals[j]) := htc
      have HLS : Hid (ERow wr B (.slice lo T1.length lc) T1 ∧ ∀ b, (Value.slice lo T1.length lc).ownBlock = some b → (Value.slice to tv.T.length tc).ownBlock = some b ∨ w.heap.size ≤ b) := by
        have q1 := HER.out.1
        have q2 := HLB.out
        rw [HTN.out] at q1 q2
        refine ⟨?_, q2⟩
        refine ⟨q1.1, ?_⟩
        rcases q1.2 with q | ⟨g5, c5, cur5, e5, _, rest5⟩
        · exact .inl q
        · refine .inr ⟨g5, c5, cur5, e5, ?_, rest5⟩
          rcases q2 g5 (by rw [e5]; rfl) with q | q
          · exact (World.ownsRow.lt HTR.out g5 q).1
          · have := HJ.out.bz; omega
      have HFT0 : Hid (∀ nd, Calls Tryz.prog 49 #[.slice to tv.T.length tc, .string bs] (wr.drewN nd) fun e w' => e = .returned (.int .i64 (firB tv.T bs)) ∧ ∃ n, w' = wr.drewN n) := fun nd => (keepFirst_any tv.T to tc bs (wr.drewN nd) hbsz (HE0.out.below (below_drewN (Below.refl _ _) nd)) hTl).mono fun _ _ h => ⟨h.1, drew_two h.2⟩
      have HFT1 : Hid (∀ nd, Calls Tryz.prog 49 #[.slice lo T1.length lc, .string bs] (wr.drewN nd) fun e w' => e = .returned (.int .i64 (firB T1 bs)) ∧ ∃ n, w' = wr.drewN n) := fun nd => (keepFirst_any T1 lo lc bs (wr.drewN nd) hbsz (HE1.out.below (below_drewN (Below.refl _ _) nd)) h1l).mono fun _ _ h => ⟨h.1, drew_two h.2⟩
      have HLK0 : Hid (∀ (V : World), Below wr.heap.size wr V → ∀ nd, Calls Tryz.prog 99 #[.slice to tv.T.length tc, .slice lo T1.length lc] (V.drewN nd) fun e w' => e = .returned (.int .i64 (lacks tv.T T1 : Nat)) ∧ ∃ n, w' = V.drewN n) := fun V hV nd => (keepLacks_any tv.T T1 to lo tc lc _ (HE0.out.below (below_drewN hV nd)) (HE1.out.below (below_drewN hV nd)) hTl h1l).mono fun _ _ h => ⟨h.1, drew_two h.2⟩
      have HLK1 : Hid (∀ (V : World), Below wr.heap.size wr V → ∀ nd, Calls Tryz.prog 99 #[.slice lo T1.length lc, .slice to tv.T.length tc] (V.drewN nd) fun e w' => e = .returned (.int .i64 (lacks T1 tv.T : Nat)) ∧ ∃ n, w' = V.drewN n) := fun V hV nd => (keepLacks_any T1 tv.T lo to lc tc _ (HE1.out.below (below_drewN hV nd)) (HE0.out.below (below_drewN hV nd)) h1l hTl).mono fun _ _ h => ⟨h.1, drew_two h.2⟩
      have HTNL : Hid ((Ts ws.length).length = T1.length) := by show _ = _; rw [HTN.out]
      rw [HTNL.out]
      have l1 : lacks tv.T T1 ≤ 256 := Nat.le_trans List.countP_le_length hTl
      have l2 : lacks T1 tv.T ≤ 256 := Nat.le_trans List.countP_le_length h1l
      have HBW : Hid (Below w.heap.size w wr) := hbw
      clear htc HER HLB HVI HTI HTR HTB HTS HVL HWS hbw
      obtain ⟨W, hW⟩ : ∃ W, W = wr := ⟨_, rfl⟩
      rw [← hW] at HFT0 HFT1 HTC e17 HFR
      have HWW : Hid (W = wr) := hW
      rw [← hW]
      clear hW
      generalize hb0 : firB tv.T bs = b0 at *
      generalize ha0 : firB T1 bs = a0 at *
      clear hb0 ha0
      go_wp2_with fail
      refine (show Calls Tryz.prog 49 #[.slice to tv.T.length tc, .string bs] W (fun e w' => e = .returned (.int .i64 b0) ∧ ∃ n, w' = W.drewN n) from HFT0.out 0).mono ?_
      rintro e w5 ⟨rfl, n5, rfl⟩
      go_wp2_with fail
      refine (HFT1.out n5).mono ?_
      rintro e w6 ⟨rfl, n6, rfl⟩
      go_wp2_with fail
      have HVV : Hid (vals.length ≤ 257) := hvl
      go_loopw [11] (fun v wr => ∃ j nd : Nat, v = .int .i64 j ∧ j ≤ vals.length ∧ wr = W.drewN nd) (fun v _ => vals.length - (intOf v).toNat)
      case atStart => exact ⟨0, n6, rfl, Nat.zero_le _, rfl⟩
      case round =>
        obtain ⟨j, nd, rfl, hjl, rfl⟩ := hrel
        by_cases hlt' : j < vals.length
        · obtain ⟨so, sc, q1, q2, q3, q4⟩ := HFR.out j hlt'
          have q5 := HTC.out j hlt'
          rw [q1] at q5
          have HFJ : Hid (Calls Tryz.prog 49 #[.slice so (Ts j).length sc, .string bs] (W.drewN nd) fun e w' => e = .returned (.int .i64 (firB (Ts j) bs)) ∧ ∃ n, w' = W.drewN n) := (keepFirst_any (Ts j) so sc bs (W.drewN nd) hbsz (q2.below (below_drewN (Below.refl _ _) nd)) q3).mono fun _ _ h => ⟨h.1, drew_two h.2⟩
          generalize firB (Ts j) bs = bj at *
          have ij : (j : Int) < (vals.length : Int) := by omega
          clear q1 q2 q3
          by_cases hb : bj = b0
          · have g1 : (bj != b0) = false := by simpa using hb
            clear hb q4
            go_wp2_with (go_at_call 49; refine HFJ.out.mono ?_; rintro e w7 ⟨rfl, n7, rfl⟩)
            go_roundw
            case rel => exact ⟨j + 1, n7, by go_num, by omega, rfl⟩
            case measure => simp [intOf]; omega
          · have hba : bj = a0 := by
              rcases q4 with q | q
              · exact absurd q hb
              · exact q
            have g1 : (bj != b0) = true := by simpa using hb
            have g2 : (bj != a0) = false := by simpa using hba
            clear hb hba q4
            go_wp2_with (go_at_call 49; refine HFJ.out.mono ?_; rintro e w7 ⟨rfl, n7, rfl⟩)
            go_roundw
            case rel => exact ⟨j + 1, n7, by go_num, by omega, rfl⟩
            case measure => simp [intOf]; omega
        · obtain rfl : j = vals.length := by omega
          clear HFR HTC hjl hlt'
          have gnum : ((ws.length : Int) != ((lacks tv.T T1 : Nat) : Int) + ((lacks T1 tv.T : Nat) : Int)) = false := by
            have := HNM.out
            simp
            omega
          obtain ⟨V, hV⟩ : ∃ V, V = W.drewN nd := ⟨_, rfl⟩
          have hbV : Below wr.heap.size wr V := by rw [hV, HWW.out]; exact below_drewN (Below.refl _ _) nd
          have e17' : V.cell? ⟨r, 17, none⟩ = some (.slice to tv.T.length tc) := by rw [hV, World.cell?_drewN]; exact e17
          have HL : Hid (∀ (u v : Value) (res : Nat) (nd : Nat), (u = .slice to tv.T.length tc ∧ v = .slice lo T1.length lc ∧ res = lacks tv.T T1) ∨ (u = .slice lo T1.length lc ∧ v = .slice to tv.T.length tc ∧ res = lacks T1 tv.T) → Calls Tryz.prog 99 #[u, v] (V.drewN nd) fun e w' => e = .returned (.int .i64 (res : Nat)) ∧ ∃ n, w' = V.drewN n) := by
            intro u v res nd hq
            rcases hq with ⟨rfl, rfl, rfl⟩ | ⟨rfl, rfl, rfl⟩
            · exact HLK0.out V hbV nd
            · exact HLK1.out V hbV nd
          have hbVw : Below w.heap.size w V := HBW.out.trans (hbV.mono HBW.out.size)
          have f17' : V.frozen? ⟨r, 17, none⟩ = false := (hbVw.frozen (p := ⟨r, 17, none⟩) hrz).trans f17
          rw [← hV]
          clear HLK0 HLK1 HNM hV e17
          generalize lacks tv.T T1 = la at *
          generalize lacks T1 tv.T = lb at *
          go_upto_region 19 with fail
          go_quiet ((go_at_call 99; apply HL.out; first | exact Or.inl ⟨rfl, rfl, rfl⟩ | exact Or.inr ⟨rfl, rfl, rfl⟩))
          go_wp2_with fail
          go_returns
          have hbF : Below w.heap.size w (V.drewN nq) := below_drewN hbVw nq
          have hrowF : ERow (V.drewN nq) B (.slice lo T1.length lc) T1 := HLS.out.1.below (below_drewN hbV nq)
          have hown : ∀ b, (Value.slice lo T1.length lc).ownBlock = some b → ¬ F b ∧ b ≠ r ∧ rv.ownBlock ≠ some b ∧ lv.ownBlock ≠ some b := fun b hk => by
            rcases HLS.out.2 b hk with hq | hq
            · exact HJ.out.tF rfl b (by rw [HTV.out]; exact hq)
            · refine ⟨fun hf => ?_, by omega, fun e => ?_, fun e => ?_⟩
              · have := X.lt HJ.out.inv b hf; omega
              · have := (World.ownsRow.lt HJ.out.rrow b e).2; omega
              · have := (World.ownsRow.lt HJ.out.lrow b e).2; omega
          refine ⟨rfl, ⟨.slice lo T1.length lc, T1⟩, (HJ.out.below hbF).setT hrowF hown, ⟨fun _ => rfl, fun _ b hk => ?_⟩, (hbF.mono HJ.out.bz).setCell (p := ⟨r, 17, none⟩) HJ.out.br _, (Off.of hbF).setCell (F := fun b => b = r) (a := ⟨r, 17, none⟩) (.inl rfl) _⟩
          rcases HLS.out.2 b hk with hq | hq
          · left; rw [HTV.out]; exact hq
          · exact .inr hq

set_option maxHeartbeats 800000 in
/-- Where the writes are looked at. -/
theorem told_on (X : XGate) : ToldOK X true := by
  intro B w r x c hd gs tv rv lv rts rls st F h a n k er T0 T1 hT hw
  have HH : Hid (RunJ X B w r x c true hd gs tv rv lv rts rls st F) := h
  have c9 := cell_of_row w r 9 _ _ _ h.cell
  have c10 := cell_of_row w r 10 _ _ _ h.cell
  have f9 := frozen_of_row w r 9 _ _ h.cell
  simp only [runC] at c9 c10
  clear h
  by_cases he : er = 0
  · subst he
    obtain ⟨Bw, ws, rfl, hrow, hok⟩ := hw.2 rfl
    rw [← hT rfl] at hok
    have HTC : Hid (Calls Tryz.prog 70 #[.pointer (some ⟨r, 0, none⟩), .slice a ws.length k] w fun e w' => e = .returned (.tuple #[]) ∧ ToldP X B w r x c true hd gs tv rv lv rts rls st F T1 w') := turned_any X HH.out a k Bw ws T1 hrow hok
    clear hw hT hrow hok
    go_enter Tryz.func45, Tryz.ntmps45
    go_wp2_with (go_at_call 70; refine HTC.out.mono ?_; rintro e w2 ⟨rfl, hP⟩)
    go_ret
    exact ⟨rfl, hP⟩
  · obtain ⟨rfl, hTT⟩ := hw.1 he
    have g1 : (er != 0) = true := by simpa using he
    have HD : Hid (decide (er = 0) = false) := by show _ = _; simpa using he
    have HTQ : Hid (tv.T = T1) := by show _ = _; rw [hT rfl, hTT]
    clear hw he hT hTT
    obtain ⟨D, hD⟩ : ∃ D, D = decide (er = 0) := ⟨_, rfl⟩
    rw [← hD] at HD ⊢
    clear hD
    go_enter Tryz.func45, Tryz.ntmps45
    go_wp2_with fail
    go_ret
    exact ⟨by rw [HD.out]; rfl, tv, HH.out.ok9, ⟨fun _ => HTQ.out, fun _ b hb => .inl hb⟩, (Below.refl B w).setCell (p := ⟨r, 9, none⟩) HH.out.br _, Off.setCell (F := fun b => b = r) (Off.refl _ w) (a := ⟨r, 9, none⟩) (.inl rfl) _⟩
end Go.Proofs.YtgkiknfpcbcnnabGreat
