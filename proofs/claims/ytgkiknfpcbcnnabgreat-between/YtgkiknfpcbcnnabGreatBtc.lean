import Derived.Test.YtgkiknfpcbcnnabGreatBtb
import Derived.Test.YtgkiknfpcbcnnabGreatScf
import Derived.Deep.RegionHeld3
import Derived.Test.YtgkiknfpcbcnnabGreatSci
namespace Go.Proofs.YtgkiknfpcbcnnabGreat
open Go.RowKit
set_option maxRecDepth 20000

/-- What the keeper reads of a run's struct. -/
def RdC (W : World) (r x : Nat) (hd : Hd) : Prop := W.cell? ⟨r, 0, none⟩ = some (.pointer (some ⟨x, 0, none⟩)) ∧ W.cell? ⟨r, 11, none⟩ = some (.int .i64 hd.ds) ∧ W.cell? ⟨r, 12, none⟩ = some (.int .i64 hd.sr) ∧ W.cell? ⟨r, 13, none⟩ = some (.int .i64 hd.pr) ∧ W.cell? ⟨r, 14, none⟩ = some (.int .i64 hd.po) ∧ W.cell? ⟨r, 15, none⟩ = some (.int .i64 hd.fl) ∧ W.cell? ⟨r, 16, none⟩ = some (.bool hd.la)
theorem RunJ.rdc {X : XGate} {B : Nat} {w : World} {r x : Nat} {c : Cf} {lk : Bool} {hd : Hd} {gs : Nat → Option Obj} {tv : Tb} {rv lv : Value} {rts : List Rt} {rls : List Rl} {st : Gs} {F : Nat → Prop} (h : RunJ X B w r x c lk hd gs tv rv lv rts rls st F) : RdC w r x hd := by
  have c : ∀ j, w.cell? ⟨r, j, none⟩ = _ := fun j => cell_of_row w r j _ _ _ h.cell
  exact ⟨c 0, c 11, c 12, c 13, c 14, c 15, c 16⟩

set_option maxHeartbeats 1600000 in
theorem asked_on (X : XGate) : AskOK X true := by
  intro _ B w r x c hd gs rts rls h
  obtain ⟨tv, rv, lv, st, F, hj, hs, htt⟩ := h.ex
  have htel := (X.ok hj.inv).tel
  have hTT : tv.T = tabS ⟨c, rts, rls⟩ := htt rfl
  have hst : tabS st = tabS ⟨c, rts, rls⟩ := hs.tabS htel
  have hHK : hdOK hd = true := hj.hok rfl
  have hTl : tv.T.length ≤ 128 := by rw [hTT, ← hst]; exact tabS_len (X.ok hj.inv)
  have HSM : Hid (Sim st ⟨c, rts, rls⟩) := hs
  have HTT : Hid (tv.T = tabS ⟨c, rts, rls⟩) := hTT
  have HTB : Hid (Calls Tryz.prog 15 #[.pointer (some ⟨x, 0, none⟩)] w fun e w2 => ∃ ao cap F2, e = .returned (.slice ao tv.T.length cap) ∧ ERow w2 w.heap.size (.slice ao tv.T.length cap) tv.T ∧ RunJ X B w2 r x c true hd gs tv rv lv rts rls st F2 ∧ (∀ b, F2 b → (Value.slice ao tv.T.length cap).ownBlock ≠ some b) ∧ Below B w w2) := by
    refine (X.table hj.inv).mono ?_
    rintro e w2 ⟨v, F2, rfl, ht, hi2, hF2, hv2, ho2⟩
    obtain ⟨j2, b2⟩ := hj.call ho2 hi2 hF2
    rw [hst, ← hTT] at ht
    obtain ⟨ao, cap, rfl⟩ := ownsRow_shape ht
    exact ⟨ao, cap, F2, rfl, ht, j2, hv2, b2⟩
  have HLK : Hid (∀ {W : World} {F2 : Nat → Prop}, RunJ X B W r x c true hd gs tv rv lv rts rls st F2 → Calls Tryz.prog 18 #[.pointer (some ⟨x, 0, none⟩), .agg #[.int .i64 hd.ds, .int .i64 hd.sr, .int .i64 hd.pr, .int .i64 hd.po, .int .i64 hd.fl, .bool hd.la]] W fun e w3 => ∃ F3, e = .returned (.tuple #[.int .i64 (firA tv.T (hbL hd)), .int .i64 0]) ∧ RunJ X B w3 r x c true hd gs tv rv lv rts rls st F3 ∧ Off F2 W w3 ∧ Below B W w3) := fun {W F2} j => by
    have e1 : lkA (tabS st) hd = firA tv.T (hbL hd) := by rw [hst, ← hTT]; unfold lkA; rw [hHK]; rfl
    have e2 : lkE hd = 0 := by unfold lkE; rw [hHK]; rfl
    have := X.lookup hd j.inv
    rw [e1, e2] at this
    refine this.mono ?_
    rintro e w3 ⟨F3, rfl, hi3, hF3, ho3⟩
    obtain ⟨j3, b3⟩ := j.call ho3 hi3 hF3
    exact ⟨F3, rfl, j3, ho3, b3⟩
  have HBT : Hid (∀ W, Calls Tryz.prog 48 #[.agg #[.int .i64 hd.ds, .int .i64 hd.sr, .int .i64 hd.pr, .int .i64 hd.po, .int .i64 hd.fl, .bool hd.la]] W fun e w' => (∃ B : ByteArray, e = .returned (.string B) ∧ bl B = hbL hd) ∧ Below W.heap.size W w') := fun W => keepBits_any hd W hHK
  obtain ⟨r0c, _⟩ := hj.rdc
  clear h hj hs htt htel hTT hst hHK
  go_enter Tryz.func24, Tryz.ntmps24
  go_wp2_with fail
  refine HTB.out.mono ?_
  rintro e w2 ⟨ao, cap, F2, rfl, hl2, j2, hv2, b2⟩
  have HL2 : Hid (ERow w2 w.heap.size (.slice ao tv.T.length cap) tv.T) := hl2
  have J2 : Hid (RunJ X B w2 r x c true hd gs tv rv lv rts rls st F2) := j2
  have HV2 : Hid (∀ b, F2 b → (Value.slice ao tv.T.length cap).ownBlock ≠ some b) := hv2
  obtain ⟨g0, g1, g2, g3, g4, g5, g6⟩ := j2.rdc
  clear hl2 j2 hv2 HTB r0c
  go_upto_region 1 with fail
  go_region_held3 (fun W' => W'.cell? ⟨r, 0, none⟩ = some (.pointer (some ⟨x, 0, none⟩)) ∧ W'.cell? ⟨r, 11, none⟩ = some (.int .i64 hd.ds) ∧ W'.cell? ⟨r, 12, none⟩ = some (.int .i64 hd.sr) ∧ W'.cell? ⟨r, 13, none⟩ = some (.int .i64 hd.pr) ∧ W'.cell? ⟨r, 14, none⟩ = some (.int .i64 hd.po) ∧ W'.cell? ⟨r, 15, none⟩ = some (.int .i64 hd.fl) ∧ W'.cell? ⟨r, 16, none⟩ = some (.bool hd.la))
    (first | assumption | exact ⟨g0, g1, g2, g3, g4, g5, g6⟩)
    (first | (go_at_call 18; refine (HLK.out (J2.out.below (Below.refl _ _).drew)).mono ?_; rintro e w3 ⟨F3, rfl, j3, o3, b3⟩; have hS3 : w3.cell? ⟨r, 0, none⟩ = some (.pointer (some ⟨x, 0, none⟩)) ∧ w3.cell? ⟨r, 11, none⟩ = some (.int .i64 hd.ds) ∧ w3.cell? ⟨r, 12, none⟩ = some (.int .i64 hd.sr) ∧ w3.cell? ⟨r, 13, none⟩ = some (.int .i64 hd.pr) ∧ w3.cell? ⟨r, 14, none⟩ = some (.int .i64 hd.po) ∧ w3.cell? ⟨r, 15, none⟩ = some (.int .i64 hd.fl) ∧ w3.cell? ⟨r, 16, none⟩ = some (.bool hd.la) := j3.rdc))
  have J3 : Hid (RunJ X B w3 r x c true hd gs tv rv lv rts rls st F3) := j3
  have HL3 : Hid (ERow w3 w.heap.size (.slice ao tv.T.length cap) tv.T) := HL2.out.same (fun b hk => o3.block b (World.ownsRow.lt HL2.out b hk).2 (fun hf => HV2.out b hf hk))
  have b23 : Below B w w3 := b2.drew.trans b3
  clear j3 o3 hS3 b2 b3 HL2 J2 HV2 g0 g1 g2 g3 g4 g5 g6 HLK
  obtain ⟨g0, g1, g2, g3, g4, g5, g6⟩ := J3.out.rdc
  go_wp2_with fail
  refine (HBT.out _).mono ?_
  rintro e w4 ⟨⟨bs, rfl, hbs⟩, hb4⟩
  have hbsz : bs.size ≤ 1000 := by
    have := congrArg List.length hbs
    rw [bl_len, hbL_len] at this
    omega
  have J4 : Hid (RunJ X B w4 r x c true hd gs tv rv lv rts rls st F3) := J3.out.below hb4
  have HE4 : Hid (EnIn w4 ao tv.T) := (EnIn.of HL3.out).below hb4
  obtain ⟨to, tc, htv, _, _, _, _, _, _, _, _, e17, _⟩ := J4.out.tread
  have HT4 : Hid (EnIn w4 to tv.T) := by
    have := J4.out.trow rfl
    rw [htv] at this
    exact EnIn.of this
  have b4 : Below B w w4 := b23.trans (hb4.mono J3.out.bz)
  have HFC : Hid (Calls Tryz.prog 49 #[.slice to tv.T.length tc, .string bs] w4 fun e w' => e = .returned (.int .i64 (firA tv.T (hbL hd))) ∧ ∃ n, w' = w4.drewN n) := by
    have := keepFirst_any tv.T to tc bs w4 hbsz HT4.out (by omega)
    rw [firB_eq, hbs] at this
    exact this
  have q1 : (firA tv.T (hbL hd) != firA tv.T (hbL hd)) = false := by simp
  have q2 : ((tv.T.length : Int) != (tv.T.length : Int)) = false := by simp
  clear g0 g1 g2 g3 g4 g5 g6 hbs htv J3 HL3 HBT b23 hb4
  generalize firA tv.T (hbL hd) = fa at *
  go_wp2_with (go_at_call 49; refine HFC.out.mono ?_; rintro e w5 ⟨rfl, n5, rfl⟩)
  go_loopw [6] (fun v wr => ∃ j nd : Nat, v = .int .i64 j ∧ j ≤ tv.T.length ∧ wr = w4.drewN nd) (fun v _ => tv.T.length - (intOf v).toNat)
  case atStart => exact ⟨0, n5, rfl, Nat.zero_le _, rfl⟩
  case round =>
    obtain ⟨j, nd, rfl, hjl, rfl⟩ := hrel
    by_cases hlt : j < tv.T.length
    · obtain ⟨ga, rfl, _, u0, u1, u2⟩ := HE4.out j hlt
      obtain ⟨gb, rfl, _, v0, v1, v2⟩ := HT4.out j hlt
      generalize tv.T[j] = z at *
      have ij : (j : Int) < (tv.T.length : Int) := by omega
      go_wp2_with fail
      go_quiet (fail)
      go_wp2_with fail
      go_roundw
      case rel => exact ⟨j + 1, _, by go_num, by omega, rfl⟩
      case measure => simp [intOf]; omega
    · go_wp2_with fail
      go_returns
      exact ⟨rfl, ⟨tv, rv, lv, st, F3, J4.out.below (below_drewN (Below.refl _ _) nd), HSM.out, fun _ => HTT.out⟩, below_drewN b4 nd⟩
end Go.Proofs.YtgkiknfpcbcnnabGreat

namespace Go.Proofs.YtgkiknfpcbcnnabGreat
open Go.RowKit
set_option maxRecDepth 20000

set_option maxHeartbeats 1600000 in
theorem betweenLaw_any (X : XGate) (c : Cf) (l : List StS) (ao bo : Option Addr) (cap m bc : Nat) (w : World) (h : CfI c) (hl : l.length ≤ 9223372036854775807) (hs : StepsB w w.heap.size ao l) (hm : m ≤ 9223372036854775807) (hb : IntsAt w bo m) :
    Calls Tryz.prog 8 #[cfV c, .slice ao l.length cap, .slice bo m bc] w fun e w' => e = .returned (.bool true) ∧ Below w.heap.size w w' := by
  have HP : Hid (∀ (hd : Hd) w, hdOK hd = true → StepsB w w.heap.size ao l → Calls Tryz.prog 14 #[cfV c, .slice ao l.length cap, .bool true, .agg #[.int .i64 hd.ds, .int .i64 hd.sr, .int .i64 hd.pr, .int .i64 hd.po, .int .i64 hd.fl, .bool hd.la]] w fun e w' => ∃ r x rts rls, e = .returned (.pointer (some ⟨r, 0, none⟩)) ∧ RunI X (w.heap.size + 1 + 1) w' r x (fitC c) true hd gs0 rts rls ∧ Below w.heap.size w w') := fun hd w hk hs => tabled_run X (told_on X) (asked_on X) c hd l ao cap w h hk hl hs
  have HS : Hid (StepsB w w.heap.size ao l) := hs
  have HH : Hid (∀ w', Below w.heap.size w w' → Calls Tryz.prog 17 #[.slice bo m bc] w' fun e w'' => (∃ hd : Hd, e = .returned (.agg #[.int .i64 hd.ds, .int .i64 hd.sr, .int .i64 hd.pr, .int .i64 hd.po, .int .i64 hd.fl, .bool hd.la]) ∧ hdOK hd = true) ∧ Below w'.heap.size w' w'') := fun w' hw => by
    refine (header_any bo m bc w' hm (hb.below0 hw)).mono ?_
    rintro e w'' ⟨⟨n1, n2, n3, n4, n5, la, rfl, l1, l2, l3, l4, l5⟩, hb1⟩
    exact ⟨⟨⟨n1, n2, n3, n4, n5, la⟩, rfl, hd_ok l1 l2 l3 l4 l5⟩, hb1⟩
  clear h hs hl hm hb
  unfold cfV
  unfold cfV at HP
  go_enter Tryz.func8, Tryz.ntmps8
  go_wp2_with fail
  refine (HH.out _ (below_alloc _ _)).mono ?_
  rintro e w1 ⟨⟨hd, rfl, hk⟩, hb1⟩
  have HK : Hid (hdOK hd = true) := hk
  obtain ⟨W, hW⟩ : ∃ W, W = w1.alloc (.cells #[.int .i64 hd.ds, .int .i64 hd.sr, .int .i64 hd.pr, .int .i64 hd.po, .int .i64 hd.fl, .bool hd.la] 33) := ⟨_, rfl⟩
  have HWE : Hid (W = w1.alloc (.cells #[.int .i64 hd.ds, .int .i64 hd.sr, .int .i64 hd.pr, .int .i64 hd.po, .int .i64 hd.fl, .bool hd.la] 33)) := hW
  have hbW1 : Below w1.heap.size w1 W := by rw [hW]; exact below_alloc _ _
  have hvW : HdVar W w1.heap.size hd := by show _ = _; rw [hW]; exact heap_alloc_new w1 _
  have hbW : Below w.heap.size w W := (below_first hb1).trans (hbW1.mono (below_first hb1).size)
  have hb1W : Below (w.alloc (.cells #[.int .i64 c.cp, .int .i64 c.bu, .int .i64 c.n0, .int .i64 c.n1, .int .i64 c.n2, .int .i64 c.n3] 24)).heap.size (w.alloc (.cells #[.int .i64 c.cp, .int .i64 c.bu, .int .i64 c.n0, .int .i64 c.n1, .int .i64 c.n2, .int .i64 c.n3] 24)) W := hb1.trans (hbW1.mono hb1.size)
  obtain ⟨p0, p1, p2, p3, p4, p5, pz⟩ := cells_six hb1W
  obtain ⟨v0, v1, v2, v3, v4, v5⟩ := hvW.get
  clear hk hW hvW hb1 hb1W hbW1 HH
  rw [HWE.out] at v0 v1 v2 v3 v4 v5 p0 p1 p2 p3 p4 p5
  go_wp2_with fail
  rw [← HWE.out]
  clear v0 v1 v2 v3 v4 v5 p0 p1 p2 p3 p4 p5 pz
  refine (HP.out hd W HK.out ((HS.out.below hbW).mono hbW.size)).mono ?_
  rintro e w2 ⟨r, x, rts, rls, rfl, hr2, hb2⟩
  have HB2 : Hid (Below w.heap.size w w2) := hbW.trans (hb2.mono hbW.size)
  have hBw : w.heap.size ≤ W.heap.size + 1 + 1 := by have := hbW.size; omega
  generalize W.heap.size + 1 + 1 = B at hr2 hBw
  have HR2 : Hid (RunI X B w2 r x (fitC c) true hd gs0 rts rls) := hr2
  clear hr2 hb2 HP HS HWE hbW
  go_wp2_with fail
  refine (asked_on X rfl HR2.out).mono ?_
  rintro e w3 ⟨rfl, hr3, hb3⟩
  obtain ⟨k10, k9⟩ := hr3.look
  have HB3 : Hid (Below w.heap.size w w3) := HB2.out.trans (hb3.mono hBw)
  clear hr3 hb3 HR2 HB2
  go_wp2_with fail
  go_ret
  exact ⟨rfl, HB3.out⟩
end Go.Proofs.YtgkiknfpcbcnnabGreat
