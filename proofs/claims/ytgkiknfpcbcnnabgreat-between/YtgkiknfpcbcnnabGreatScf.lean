import Derived.Test.YtgkiknfpcbcnnabGreatSce
import Derived.Deep.RegionHeld3
namespace Go.Proofs.YtgkiknfpcbcnnabGreat
open Go.RowKit
set_option maxRecDepth 20000

/-- The table at the beginning: one entry, which fits every header. -/
theorem cub_all : cubS [⟨1, 0, 0, []⟩] = [List.replicate 65 42] := by rfl
theorem tab_begin {c : Cf} (h : cfOK c = true) : ∃ b : ByteArray, tabS ⟨c, [r0], [q0]⟩ = [⟨b, 255, ⟨#[1, 0]⟩⟩] ∧ bl b = List.replicate 65 42 := by
  have hc : cbL ⟨#[1, 0]⟩ = [List.replicate 65 42] := by
    unfold cbL
    have hd : (decS ⟨#[1, 0]⟩).isSome = true := by rw [all_dst, decS_complete _ (by decide)]; rfl
    rw [if_pos (by rw [hd, dS_all, nS_all]; rfl), dS_all, cub_all]
  refine ⟨⟨(List.replicate 65 42).toArray⟩, ?_, by simp [bl]⟩
  unfold tabS
  rw [stats_begin h]
  unfold tabL enOf cbB q0
  simp only [List.flatMap_cons, List.flatMap_nil, if_true, List.append_nil]
  rw [hc]
  rfl
theorem look_begin {c : Cf} (h : cfOK c = true) (k : Hd) (hk : hdOK k = true) : lkA (tabS ⟨c, [r0], [q0]⟩) k = 255 ∧ lkE k = 0 ∧ (tabS ⟨c, [r0], [q0]⟩).length = 1 := by
  obtain ⟨b, e, hb⟩ := tab_begin h
  refine ⟨?_, by unfold lkE; rw [hk]; rfl, by rw [e]; rfl⟩
  unfold lkA firA
  rw [hk, e]
  have : fitL (bl b) (hbL k) = true := by
    rw [hb]
    have := fitL_stars (hbL k)
    rw [hbL_len] at this
    exact this
  simp [this]

set_option maxHeartbeats 1600000 in
theorem stands_any (X : XGate) {lk : Bool} {B : Nat} {w : World} {r x : Nat} {c : Cf} {hd : Hd} {gs : Nat → Option Obj} (h : RunI X B w r x c lk hd gs [r0] [q0]) (hc : cfOK c = true) (k : Hd) (hk : hdOK k = true) :
    Calls Tryz.prog 34 #[.pointer (some ⟨r, 0, none⟩), hdV k] w fun e w' => e = .returned (.bool true) ∧ RunI X B w' r x c lk hd gs [r0] [q0] ∧ Below B w w' := by
  obtain ⟨l1, l2, l3⟩ := look_begin hc k hk
  obtain ⟨W, hW⟩ : ∃ W, W = w.alloc (.cells #[.int .i64 k.ds, .int .i64 k.sr, .int .i64 k.pr, .int .i64 k.po, .int .i64 k.fl, .bool k.la] 33) := ⟨_, rfl⟩
  have HWE : Hid (W = w.alloc (.cells #[.int .i64 k.ds, .int .i64 k.sr, .int .i64 k.pr, .int .i64 k.po, .int .i64 k.fl, .bool k.la] 33)) := hW
  have hbW : Below w.heap.size w W := by rw [hW]; exact below_alloc _ _
  have hoW : W.heap[w.heap.size]? = some (.cells #[.int .i64 k.ds, .int .i64 k.sr, .int .i64 k.pr, .int .i64 k.po, .int .i64 k.fl, .bool k.la] 33 (0, 0)) := by rw [hW]; exact heap_alloc_new w _
  have HR : Hid (RunI X B W r x c lk hd (gsAdd gs w.heap.size (.cells #[.int .i64 k.ds, .int .i64 k.sr, .int .i64 k.pr, .int .i64 k.po, .int .i64 k.fl, .bool k.la] 33 (0, 0))) [r0] [q0]) := h.host hbW (Nat.le_refl _) hoW
  have HGN : Hid (gs w.heap.size = none) := h.new_none (Nat.le_refl _)
  have HBW : Hid (Below B w W) := hbW.mono h.bz
  have HX : Hid (∀ {W : World} {gs : Nat → Option Obj}, RunI X B W r x c lk hd gs [r0] [q0] → W.cell? ⟨r, 0, none⟩ = some (.pointer (some ⟨x, 0, none⟩))) := fun h => by
    obtain ⟨tv, rv, lv, st, F, hj, _, _⟩ := h.ex
    exact cell_of_row _ r 0 _ _ _ hj.cell
  have HL : Hid (∀ W', Below W.heap.size W W' → Calls Tryz.prog 18 #[.pointer (some ⟨x, 0, none⟩), .agg #[.int .i64 k.ds, .int .i64 k.sr, .int .i64 k.pr, .int .i64 k.po, .int .i64 k.fl, .bool k.la]] W' fun e w' => e = .returned (.tuple #[.int .i64 255, .int .i64 0]) ∧ RunI X B w' r x c lk hd (gsAdd gs w.heap.size (.cells #[.int .i64 k.ds, .int .i64 k.sr, .int .i64 k.pr, .int .i64 k.po, .int .i64 k.fl, .bool k.la] 33 (0, 0))) [r0] [q0] ∧ Below B W w') := fun W' hW' => by
    have h3 := (HR.out.below hW').lookup k
    unfold hdV at h3
    rw [l1, l2] at h3
    exact h3.mono fun e w' h4 => ⟨h4.1, h4.2.1, (hW'.mono HR.out.bz).trans h4.2.2⟩
  have HTB : Hid (∀ {W : World} {gs : Nat → Option Obj}, RunI X B W r x c lk hd gs [r0] [q0] → Calls Tryz.prog 15 #[.pointer (some ⟨x, 0, none⟩)] W fun e w' => ∃ ao cap, e = .returned (.slice ao 1 cap) ∧ RunI X B w' r x c lk hd gs [r0] [q0] ∧ Below B W w') := fun h => by
    have h3 := h.table
    rw [l3] at h3
    exact h3.mono fun e w' ⟨ao, cap, e1, _, e2, e3⟩ => ⟨ao, cap, e1, e2, e3⟩
  have HCC : Hid (∀ W' : World, W'.heap[w.heap.size]? = some (.cells #[.int .i64 k.ds, .int .i64 k.sr, .int .i64 k.pr, .int .i64 k.po, .int .i64 k.fl, .bool k.la] 33 (0, 0)) → W'.cell? ⟨r, 0, none⟩ = some (.pointer (some ⟨x, 0, none⟩)) → (W'.cell? ⟨r, 0, none⟩ = some (.pointer (some ⟨x, 0, none⟩)) ∧ W'.cell? ⟨w.heap.size, 0, none⟩ = some (.int .i64 k.ds) ∧ W'.cell? ⟨w.heap.size, 1, none⟩ = some (.int .i64 k.sr) ∧ W'.cell? ⟨w.heap.size, 2, none⟩ = some (.int .i64 k.pr) ∧ W'.cell? ⟨w.heap.size, 3, none⟩ = some (.int .i64 k.po) ∧ W'.cell? ⟨w.heap.size, 4, none⟩ = some (.int .i64 k.fl) ∧ W'.cell? ⟨w.heap.size, 5, none⟩ = some (.bool k.la))) := fun W' h1 h2 =>
    ⟨h2, cell_of_row W' w.heap.size 0 _ _ _ h1, cell_of_row W' w.heap.size 1 _ _ _ h1, cell_of_row W' w.heap.size 2 _ _ _ h1, cell_of_row W' w.heap.size 3 _ _ _ h1, cell_of_row W' w.heap.size 4 _ _ _ h1, cell_of_row W' w.heap.size 5 _ _ _ h1⟩
  have hcW := HCC.out W hoW (HX.out HR.out)
  obtain ⟨g0, g1, g2, g3, g4, g5, g6⟩ := hcW
  unfold hdV
  clear hW h hc hk l1 l2 l3
  go_enter Tryz.func34, Tryz.ntmps34
  go_upto_region 1 with fail
  rw [← HWE.out]
  go_region_held3 (fun W' => W'.cell? ⟨r, 0, none⟩ = some (.pointer (some ⟨x, 0, none⟩)) ∧ W'.cell? ⟨w.heap.size, 0, none⟩ = some (.int .i64 k.ds) ∧ W'.cell? ⟨w.heap.size, 1, none⟩ = some (.int .i64 k.sr) ∧ W'.cell? ⟨w.heap.size, 2, none⟩ = some (.int .i64 k.pr) ∧ W'.cell? ⟨w.heap.size, 3, none⟩ = some (.int .i64 k.po) ∧ W'.cell? ⟨w.heap.size, 4, none⟩ = some (.int .i64 k.fl) ∧ W'.cell? ⟨w.heap.size, 5, none⟩ = some (.bool k.la))
    (first | assumption | exact ⟨g0, g1, g2, g3, g4, g5, g6⟩)
    (first | (go_at_call 18; refine (HL.out _ ?_).mono ?_; (exact (Below.refl _ _).drew); rintro e w3 ⟨rfl, r3, b3⟩; have hS3 := HCC.out w3 r3.guest (HX.out r3)))
  have R3 : Hid (RunI X B w3 r x c lk hd (gsAdd gs w.heap.size (.cells #[.int .i64 k.ds, .int .i64 k.sr, .int .i64 k.pr, .int .i64 k.po, .int .i64 k.fl, .bool k.la] 33 (0, 0))) [r0] [q0]) := r3
  have x3 := HX.out r3
  clear r3 hS3
  go_wp2_with (go_at_call 15; refine (HTB.out R3.out).mono ?_; rintro e w4 ⟨ao, cap, rfl, r4, b4⟩)
  go_ret
  exact ⟨rfl, r4.leave HGN.out, (HBW.out.trans b3).trans b4⟩
end Go.Proofs.YtgkiknfpcbcnnabGreat

namespace Go.Proofs.YtgkiknfpcbcnnabGreat
open Go.RowKit
set_option maxRecDepth 20000

set_option maxHeartbeats 1600000 in
theorem tabled_run (X : XGate) {lk : Bool} (HTD : Hid (ToldOK X lk)) (HAS : Hid (AskOK X lk)) (c : Cf) (hd : Hd) (l : List StS) (ao : Option Addr) (cap : Nat) (w : World) (h : CfI c) (hk : hdOK hd = true) (hl : l.length ≤ 9223372036854775807) (hs : StepsB w w.heap.size ao l) :
    Calls Tryz.prog 14 #[cfV c, .slice ao l.length cap, .bool lk, hdV hd] w fun e w' => ∃ r x rts rls, e = .returned (.pointer (some ⟨r, 0, none⟩)) ∧ RunI X (w.heap.size + 1 + 1) w' r x (fitC c) lk hd gs0 rts rls ∧ Below w.heap.size w w' := by
  have HB : Hid (∀ w, Calls Tryz.prog 20 #[cfV c, .bool lk, hdV hd] w fun e w' => ∃ r x, e = .returned (.pointer (some ⟨r, 0, none⟩)) ∧ RunI X w.heap.size w' r x (fitC c) lk hd gs0 [r0] [q0] ∧ Below w.heap.size w w') := fun w => begin_any X HTD c hd w h (fun _ => hk)
  have HST : Hid (∀ {B : Nat} {w : World} {r x : Nat}, RunI X B w r x (fitC c) lk hd gs0 [r0] [q0] → Calls Tryz.prog 34 #[.pointer (some ⟨r, 0, none⟩), hdV hd] w fun e w' => e = .returned (.bool true) ∧ RunI X B w' r x (fitC c) lk hd gs0 [r0] [q0] ∧ Below B w w') := fun h => stands_any X h (fitC_ok c) hd hk
  have HS : Hid (StepsB w w.heap.size ao l) := hs
  have HL : Hid (l.length ≤ 9223372036854775807) := hl
  clear h hs hl hk
  obtain ⟨W, hW⟩ : ∃ W, W = (w.alloc (.cells #[.int .i64 c.cp, .int .i64 c.bu, .int .i64 c.n0, .int .i64 c.n1, .int .i64 c.n2, .int .i64 c.n3] 24)).alloc (.cells #[.int .i64 hd.ds, .int .i64 hd.sr, .int .i64 hd.pr, .int .i64 hd.po, .int .i64 hd.fl, .bool hd.la] 33) := ⟨_, rfl⟩
  have HWE : Hid (W = (w.alloc (.cells #[.int .i64 c.cp, .int .i64 c.bu, .int .i64 c.n0, .int .i64 c.n1, .int .i64 c.n2, .int .i64 c.n3] 24)).alloc (.cells #[.int .i64 hd.ds, .int .i64 hd.sr, .int .i64 hd.pr, .int .i64 hd.po, .int .i64 hd.fl, .bool hd.la] 33)) := hW
  have hbW : Below w.heap.size w W := by rw [hW]; exact (below_alloc w _).alloc (by simp) _
  have hWz : W.heap.size = w.heap.size + 1 + 1 := by rw [hW]; simp
  have hoW : W.heap[w.heap.size + 1]? = some (.cells #[.int .i64 hd.ds, .int .i64 hd.sr, .int .i64 hd.pr, .int .i64 hd.po, .int .i64 hd.fl, .bool hd.la] 33 (0, 0)) := by rw [hW]; exact heap_new_at (w.alloc _) _ _ (by simp)
  clear hW
  unfold cfV hdV
  unfold cfV hdV at HB
  unfold hdV at HST
  go_enter Tryz.func14, Tryz.ntmps14
  go_wp2_with fail
  rw [← HWE.out]
  refine (HB.out _).mono ?_
  rintro e w1 ⟨r, x, rfl, hr1, hb1⟩
  rw [hWz] at hr1
  have HR1 : Hid (RunI X (w.heap.size + 1 + 1) w1 r x (fitC c) lk hd gs0 [r0] [q0]) := hr1
  have ho1 := (hb1.block (w.heap.size + 1) (by omega)).trans hoW
  have HB1 : Hid (Below W.heap.size W w1) := hb1
  have e0 := cell_of_row w1 (w.heap.size + 1) 0 _ _ _ ho1
  have e1 := cell_of_row w1 (w.heap.size + 1) 1 _ _ _ ho1
  have e2 := cell_of_row w1 (w.heap.size + 1) 2 _ _ _ ho1
  have e3 := cell_of_row w1 (w.heap.size + 1) 3 _ _ _ ho1
  have e4 := cell_of_row w1 (w.heap.size + 1) 4 _ _ _ ho1
  have e5 := cell_of_row w1 (w.heap.size + 1) 5 _ _ _ ho1
  clear hr1 hb1 HB ho1 hoW
  go_wp2_with fail
  refine (HST.out HR1.out).mono ?_
  rintro e w2 ⟨rfl, hr2, hb2⟩
  have HR2 : Hid (RunI X (w.heap.size + 1 + 1) w2 r x (fitC c) lk hd gs0 [r0] [q0]) := hr2
  have hb02 : Below w.heap.size w w2 := hbW.trans ((HB1.out.mono hbW.size).trans (hb2.mono (by omega)))
  have HP : Hid (Calls Tryz.prog 25 #[.pointer (some ⟨r, 0, none⟩), .slice ao l.length cap] w2 fun e w' => e = .returned (.tuple #[]) ∧ (∃ rts' rls', RunI X (w.heap.size + 1 + 1) w' r x (fitC c) lk hd gs0 rts' rls') ∧ Below (w.heap.size + 1 + 1) w2 w') := play_any X HTD HAS hr2 l ao cap HL.out ((HS.out.below hb02).mono (by omega))
  have HB2 : Hid (Below w.heap.size w w2) := hb02
  clear hr2 hb2 hb02 e0 e1 e2 e3 e4 e5 HR1 HB1 HS HL HST hbW HR2
  go_wp2_with fail
  refine HP.out.mono ?_
  rintro e w3 ⟨rfl, ⟨rts, rls, hr3⟩, hb3⟩
  obtain ⟨k10, k9⟩ := hr3.look
  have HR3 : Hid (RunI X (w.heap.size + 1 + 1) w3 r x (fitC c) lk hd gs0 rts rls) := hr3
  have HB3 : Hid (Below w.heap.size w w3) := HB2.out.trans (hb3.mono (by omega))
  clear hr3 hb3 HB2 HP
  go_wp2_with fail
  go_ret
  exact ⟨r, x, rts, rls, rfl, HR3.out, HB3.out⟩
end Go.Proofs.YtgkiknfpcbcnnabGreat
