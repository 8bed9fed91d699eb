import Derived.Test.YtdepfhkhkocehabSeg1
import Derived.Deep.RegionHeld3
import Derived.Deep.Cut
import Derived.Deep.RegionLaw
import Derived.Deep.AppendLies
namespace Go.Proofs.Ytdepfhkhkocehab
open Go.RowKit
set_option maxRecDepth 20000

section
variable {X : XGate} {B : Nat} {w w' : World} {r x : Nat} {c : Cf} {lk : Bool} {hd : Hd} {tv rv lv : Value} {rts : List Rt} {rls : List Rl} {st : Gs} {F : Nat → Prop}
/-- The row of routes, of rules, written in its place. -/
theorem RunJ.pokeR {rts' : List Rt} (h : RunJ X B w r x c lk hd tv rv lv rts rls st F) (ho : Off (fun b => rv.ownBlock = some b) w w') (hrow : w'.ownsRow B 69 4 rv rts'.length (rtCs rts')) : RunJ X B w' r x c lk hd tv rv lv rts' rls st F ∧ Below B w w' := by
  have hz := ho.size
  exact ⟨⟨(ho.block r h.lt (fun e => (h.rF r e).2.1 rfl)).trans h.cell, hrow, ownsRow_same h.lrow (fun b hk => ho.block b (World.ownsRow.lt h.lrow b hk).2 (fun e => (h.rF b e).2.2 hk)), X.same h.inv hz (fun b hf => ho.block b (X.lt h.inv b hf) (fun e => (h.rF b e).1 hf)), h.br, h.nF, h.bF, h.rF, h.lF⟩, ho.below h.bz (fun b hb => (World.ownsRow.lt h.rrow b hb).1)⟩
theorem RunJ.pokeC {rls' : List Rl} (h : RunJ X B w r x c lk hd tv rv lv rts rls st F) (ho : Off (fun b => lv.ownBlock = some b) w w') (hrow : w'.ownsRow B 54 3 lv rls'.length (clCs rls')) : RunJ X B w' r x c lk hd tv rv lv rts rls' st F ∧ Below B w w' := by
  have hz := ho.size
  exact ⟨⟨(ho.block r h.lt (fun e => (h.lF r e).2 rfl)).trans h.cell, ownsRow_same h.rrow (fun b hk => ho.block b (World.ownsRow.lt h.rrow b hk).2 (fun e => (h.rF b hk).2.2 e)), hrow, X.same h.inv hz (fun b hf => ho.block b (X.lt h.inv b hf) (fun e => (h.lF b e).1 hf)), h.br, h.nF, h.bF, h.rF, h.lF⟩, ho.below h.bz (fun b hb => (World.ownsRow.lt h.lrow b hb).1)⟩
/-- The row of routes, of rules, grown, and laid in its place. -/
theorem RunJ.growR {v : Value} {rts' : List Rt} (h : RunJ X B w r x c lk hd tv rv lv rts rls st F) (ho : Off (fun b => rv.ownBlock = some b) w w') (hrow : w'.ownsRow B 69 4 v rts'.length (rtCs rts')) (hv : ∀ b, v.ownBlock = some b → rv.ownBlock = some b ∨ w.heap.size ≤ b) : RunJ X B (w'.setCell ⟨r, 7, none⟩ v) r x c lk hd tv v lv rts' rls st F ∧ Below B w (w'.setCell ⟨r, 7, none⟩ v) := by
  have oth : ∀ b, b ≠ r → (w'.setCell ⟨r, 7, none⟩ v).heap[b]? = w'.heap[b]? := fun b hne => Below.heap_setCell _ _ _ _ hne
  have hz := ho.size
  have hsz : (w'.setCell ⟨r, 7, none⟩ v).heap.size = w'.heap.size := by simp only [World.setCell, Array.size_modify]
  have hr := h.lt
  have hvr : ∀ b, v.ownBlock = some b → ¬ F b ∧ b ≠ r ∧ lv.ownBlock ≠ some b := fun b hk => by
    rcases hv b hk with e | e
    · exact h.rF b e
    · exact ⟨fun hf => by have := X.lt h.inv b hf; omega, by omega, fun e2 => by have := (World.ownsRow.lt h.lrow b e2).2; omega⟩
  refine ⟨⟨heap_setCell_same w' r 7 _ _ _ ((ho.block r h.lt (fun e => (h.rF r e).2.1 rfl)).trans h.cell), ownsRow_same hrow (fun b hk => oth b (hvr b hk).2.1), ownsRow_same h.lrow (fun b hk => (oth b (h.lF b hk).2).trans (ho.block b (World.ownsRow.lt h.lrow b hk).2 (fun e => (h.rF b e).2.2 hk))), X.same h.inv (by omega) (fun b hf => (oth b (fun e => h.nF (e ▸ hf))).trans (ho.block b (X.lt h.inv b hf) (fun e => (h.rF b e).1 hf))), h.br, h.nF, h.bF, hvr, h.lF⟩, (ho.below h.bz (fun b hb => (World.ownsRow.lt h.rrow b hb).1)).setCell (p := ⟨r, 7, none⟩) h.br _⟩
theorem RunJ.growC {v : Value} {rls' : List Rl} (h : RunJ X B w r x c lk hd tv rv lv rts rls st F) (ho : Off (fun b => lv.ownBlock = some b) w w') (hrow : w'.ownsRow B 54 3 v rls'.length (clCs rls')) (hv : ∀ b, v.ownBlock = some b → lv.ownBlock = some b ∨ w.heap.size ≤ b) : RunJ X B (w'.setCell ⟨r, 8, none⟩ v) r x c lk hd tv rv v rts rls' st F ∧ Below B w (w'.setCell ⟨r, 8, none⟩ v) := by
  have oth : ∀ b, b ≠ r → (w'.setCell ⟨r, 8, none⟩ v).heap[b]? = w'.heap[b]? := fun b hne => Below.heap_setCell _ _ _ _ hne
  have hz := ho.size
  have hsz : (w'.setCell ⟨r, 8, none⟩ v).heap.size = w'.heap.size := by simp only [World.setCell, Array.size_modify]
  have hr := h.lt
  have hvr : ∀ b, v.ownBlock = some b → ¬ F b ∧ b ≠ r ∧ rv.ownBlock ≠ some b := fun b hk => by
    rcases hv b hk with e | e
    · exact ⟨(h.lF b e).1, (h.lF b e).2, fun e2 => (h.rF b e2).2.2 e⟩
    · exact ⟨fun hf => by have := X.lt h.inv b hf; omega, by omega, fun e2 => by have := (World.ownsRow.lt h.rrow b e2).2; omega⟩
  refine ⟨⟨heap_setCell_same w' r 8 _ _ _ ((ho.block r h.lt (fun e => (h.lF r e).2 rfl)).trans h.cell), ownsRow_same h.rrow (fun b hk => (oth b (h.rF b hk).2.1).trans (ho.block b (World.ownsRow.lt h.rrow b hk).2 (fun e => (h.rF b hk).2.2 e))), ownsRow_same hrow (fun b hk => oth b (hvr b hk).2.1), X.same h.inv (by omega) (fun b hf => (oth b (fun e => h.nF (e ▸ hf))).trans (ho.block b (X.lt h.inv b hf) (fun e => (h.lF b e).1 hf))), h.br, h.nF, h.bF, fun b hk => ⟨(h.rF b hk).1, (h.rF b hk).2.1, fun e => (hvr b e).2.2 hk⟩, fun b hk => ⟨(hvr b hk).1, (hvr b hk).2.1⟩⟩, (ho.below h.bz (fun b hb => (World.ownsRow.lt h.lrow b hb).1)).setCell (p := ⟨r, 8, none⟩) h.br _⟩
end

theorem RunJ.rowC {X : XGate} {B : Nat} {w : World} {r x : Nat} {c : Cf} {lk : Bool} {hd : Hd} {tv rv : Value} {rts : List Rt} {rls : List Rl} {st : Gs} {F : Nat → Prop} {lo : Option Addr} {lc : Nat} (h : RunJ X B w r x c lk hd tv rv (.slice lo rls.length lc) rts rls st F) (k : Nat) (hk : k < rls.length) : ∃ rk, lo = some ⟨rk, 0, none⟩ ∧ rk < w.heap.size ∧ w.frozen? ⟨rk, k * 3 + 2, none⟩ = false ∧ (∃ u, w.cell? ⟨rk, k * 3 + 2, none⟩ = some u) ∧ ∀ ac, RunJ X B (w.setCell ⟨rk, k * 3 + 2, none⟩ (.int .i64 ac)) r x c lk hd tv rv (.slice lo rls.length lc) rts (rls.set k ⟨rls[k].tx, rls[k].pe, ac⟩) st F ∧ Below B w (w.setCell ⟨rk, k * 3 + 2, none⟩ (.int .i64 ac)) := by
  have hin := ClIn.of h.lrow
  rcases h.lrow.2 with ⟨_, h0⟩ | ⟨rk, cc, cur, hv, _, hh, _⟩
  · omega
  · simp only [Value.slice.injEq, true_and] at hv
    obtain ⟨rfl, rfl⟩ := hv
    refine ⟨rk, rfl, lt_of_block hh, frozen_of_row w rk _ cur _ hh, ?_, fun ac => ?_⟩
    · obtain ⟨b, off, e, _, _, _, c2⟩ := hin k hk
      simp only [Option.some.injEq, Addr.mk.injEq, and_true] at e
      obtain ⟨rfl, rfl⟩ := e
      rw [Nat.zero_add] at c2
      exact ⟨_, c2⟩
    · refine h.pokeC (Off.setCell (F := fun b => (Value.slice (some ⟨rk, 0, none⟩) rls.length lc).ownBlock = some b) (Off.refl _ w) (a := ⟨rk, k * 3 + 2, none⟩) (.inl rfl) _) ?_
      rw [List.length_set, clCs_setAc]
      exact ownsRow_store h.lrow _ _
theorem RunJ.rowR {X : XGate} {B : Nat} {w : World} {r x : Nat} {c : Cf} {lk : Bool} {hd : Hd} {tv lv : Value} {rts : List Rt} {rls : List Rl} {st : Gs} {F : Nat → Prop} {lo : Option Addr} {lc : Nat} (h : RunJ X B w r x c lk hd tv (.slice lo rts.length lc) lv rts rls st F) (k : Nat) (hk : k < rts.length) : ∃ rk, lo = some ⟨rk, 0, none⟩ ∧ rk < w.heap.size ∧ w.frozen? ⟨rk, k * 4 + 3, none⟩ = false ∧ (∃ u, w.cell? ⟨rk, k * 4 + 3, none⟩ = some u) ∧ ∀ pa, RunJ X B (w.setCell ⟨rk, k * 4 + 3, none⟩ (.int .i64 pa)) r x c lk hd tv (.slice lo rts.length lc) lv (rts.set k ⟨rts[k].pe, rts[k].bt, rts[k].ln, pa⟩) rls st F ∧ Below B w (w.setCell ⟨rk, k * 4 + 3, none⟩ (.int .i64 pa)) := by
  have hin := rtIn_of h.rrow
  rcases h.rrow.2 with ⟨_, h0⟩ | ⟨rk, cc, cur, hv, _, hh, _⟩
  · omega
  · simp only [Value.slice.injEq, true_and] at hv
    obtain ⟨rfl, rfl⟩ := hv
    refine ⟨rk, rfl, lt_of_block hh, frozen_of_row w rk _ cur _ hh, ?_, fun pa => ?_⟩
    · obtain ⟨b, off, e, _, _, _, _, c3⟩ := hin k hk
      simp only [Option.some.injEq, Addr.mk.injEq, and_true] at e
      obtain ⟨rfl, rfl⟩ := e
      rw [Nat.zero_add] at c3
      exact ⟨_, c3⟩
    · refine h.pokeR (Off.setCell (F := fun b => (Value.slice (some ⟨rk, 0, none⟩) rts.length lc).ownBlock = some b) (Off.refl _ w) (a := ⟨rk, k * 4 + 3, none⟩) (.inl rfl) _) ?_
      rw [List.length_set, rtCs_setPa]
      exact ownsRow_store h.rrow _ _

/-- What the law's account has behind a rule that is announced. -/
def saS (rls : List Rl) (pe : Int) (tx : ByteArray) (ac : Int) : List Rl := if plC rls pe tx < rls.length then rls.set (plC rls pe tx) ⟨tx, pe, ac⟩ else if 24 ≤ rls.length then rls else rls ++ [⟨tx, pe, ac⟩]
theorem infoSRl : (Try.prog.info? 54).map (fun i => (i.zero, i.size, i.bytes)) = some (some (.agg #[.int .i64 0, .string ⟨#[]⟩, .int .i64 0]), 3, 32) := by kernel_rfl

set_option maxHeartbeats 3200000 in
theorem say_any (X : XGate) {B : Nat} {w : World} {r x : Nat} {c : Cf} {hd : Hd} {tv : Value} {rts : List Rt} {rls : List Rl} (h : RunI X B w r x c false hd tv rts rls) (pe : Int) (tx : ByteArray) (ac : Int) (h1 : peOK pe = true) (h2 : (decS tx).isSome = true) (h3 : paOK ac = true) (hs : tx.size ≤ 140737488351232) :
    Calls Try.prog 23 #[.pointer (some ⟨r, 0, none⟩), .int .i64 pe, .string tx, .int .i64 ac] w fun e w' => e = .returned (.tuple #[]) ∧ RunI X B w' r x c false hd tv rts (saS rls pe tx ac) ∧ Below B w w' := by
  obtain ⟨i0, hi, hz0, hz1, hz2⟩ := info_parts infoSRl
  obtain ⟨rv, lv, st, F, hj, hsim⟩ := h.ex
  have HJ : Hid (RunJ X B w r x c false hd tv rv lv rts rls st F) := hj
  have HSM : Hid (Sim st ⟨c, rts, rls⟩) := hsim
  have hok : GsOK ⟨c, rts, rls⟩ := GsOK.sim hsim.symm (X.ok hj.inv)
  have HOK : Hid (GsOK ⟨c, rts, rls⟩) := hok
  have h24 : rls.length ≤ 24 := hok.l24
  obtain ⟨ro, rc, lo, lc, hrv, hlv, c0, c7, c8, c9, c10, hfz, hrin, hcin⟩ := hj.read
  have HC : Hid (ClIn w lo rls) := hcin
  have hrz := hj.lt
  have HAD : Hid (Calls Try.prog 38 #[.pointer (some ⟨x, 0, none⟩), .int .i64 pe, .string tx, .int .i64 ac] w fun e w' => XPost X.Inv F w x (adE st pe tx ac) (adS st pe tx ac) e w') := by
    have b1 := peOK_bd h1
    have b3 := paOK_bd h3
    have := X.add pe tx ac hj.inv ⟨by omega, by omega⟩ ⟨by omega, by omega⟩ hs
    unfold ptrV at this
    exact this
  have hE : adE st pe tx ac = adE ⟨c, rts, rls⟩ pe tx ac := hsim.adE pe tx ac
  have f8 := hfz 8
  subst hlv
  clear h hj hsim hrin hcin c7 c9 c10 hfz hrv hs
  have HST : Hid (∀ i (hi : i < rls.length), atP (plC rls pe tx) (i + 1) = if rlNe pe tx rls[i] then atP (plC rls pe tx) i else (i : Int)) := fun i hi => atP_step (rlNe pe tx) (rl_once HOK.out pe tx) i hi
  go_enter Try.func23, Try.ntmps23
  go_wp2_with fail
  go_loopw [9, 10] (fun a y wr => ∃ i : Nat, y = .int .i64 i ∧ a = .int .i64 (atP (plC rls pe tx) i) ∧ i ≤ rls.length ∧ wr = w) (fun _ y _ => rls.length - (intOf y).toNat)
  case atStart => exact ⟨0, rfl, rfl, Nat.zero_le _, rfl⟩
  case round =>
    obtain ⟨i, rfl, rfl, hil, rfl⟩ := hrel
    by_cases hlt : i < rls.length
    · obtain ⟨rk, ro', rfl, bz2, d0, d1, d2⟩ := HC.out i hlt
      have HS := HST.out i hlt
      generalize rls[i] = q at *
      obtain ⟨qtx, qpe, qac⟩ := q
      simp only [] at d0 d1 d2
      by_cases e1 : qpe = pe
      · subst e1
        have q0 : (qpe == qpe) = true := by simp
        by_cases e2 : qtx = tx
        · subst e2
          have HN : Hid (atP (plC rls qpe qtx) (i + 1) = (i : Int)) := by
            show _ = _
            rw [HS]
            have : rlNe qpe qtx ⟨qtx, qpe, qac⟩ = false := by
              cases hh : rlNe qpe qtx ⟨qtx, qpe, qac⟩
              · rfl
              · exact absurd ⟨rfl, rfl⟩ ((rlNe_iff _ _ _).1 hh)
            rw [this]
            rfl
          clear HS
          go_wp2_with fail
          go_roundw
          case rel => exact ⟨i + 1, by go_num, by rw [HN.out], by omega, by trivial⟩
          case measure => simp [intOf]; omega
        · have q1 := text_ne e2
          have HN : Hid (atP (plC rls qpe tx) (i + 1) = atP (plC rls qpe tx) i) := by
            show _ = _
            rw [HS, (rlNe_iff qpe tx ⟨qtx, qpe, qac⟩).2 (fun hh => e2 hh.2)]
            rfl
          clear HS e2
          go_wp2_with fail
          go_roundw
          case rel => exact ⟨i + 1, by go_num, by rw [HN.out], by omega, by trivial⟩
          case measure => simp [intOf]; omega
      · have q0 : (qpe == pe) = false := by simpa using e1
        have HN : Hid (atP (plC rls pe tx) (i + 1) = atP (plC rls pe tx) i) := by
          show _ = _
          rw [HS, (rlNe_iff pe tx ⟨qtx, qpe, qac⟩).2 (fun hh => e1 hh.1)]
          rfl
        clear HS e1
        go_wp2_with fail
        go_roundw
        case rel => exact ⟨i + 1, by go_num, by rw [HN.out], by omega, by trivial⟩
        case measure => simp [intOf]; omega
    · obtain rfl : i = rls.length := by omega
      by_cases hpl : plC rls pe tx < rls.length
      · have hx := adE_at HOK.out h1 h2 h3 hpl
        have hat := plC_at hpl
        have HE0 : Hid (adE st pe tx ac = 0) := by show _ = _; rw [hE]; exact hx.1
        have HSS : Hid (Sim ⟨c, rts, rls.set (plC rls pe tx) ⟨tx, pe, ac⟩⟩ (adS ⟨c, rts, rls⟩ pe tx ac)) := hx.2
        have HSA : Hid (saS rls pe tx ac = rls.set (plC rls pe tx) ⟨tx, pe, ac⟩) := by show _ = _; unfold saS; rw [if_pos hpl]
        have HAT : Hid (atP (plC rls pe tx) rls.length = (plC rls pe tx : Int)) := by show _ = _; unfold atP; rw [if_pos hpl]
        have HAD0 := HAD.out
        rw [HE0.out] at HAD0
        have HADC : Hid (Calls Try.prog 38 #[.pointer (some ⟨x, 0, none⟩), .int .i64 pe, .string tx, .int .i64 ac] wr fun e w' => XPost X.Inv F wr x 0 (adS st pe tx ac) e w') := HAD0
        obtain ⟨rk, rfl, hrkz, _, _, _⟩ := HJ.out.rowC _ hpl
        have HATS : Hid (rls.set (plC rls pe tx) ⟨(rls[plC rls pe tx]'hpl).tx, (rls[plC rls pe tx]'hpl).pe, ac⟩ = rls.set (plC rls pe tx) ⟨tx, pe, ac⟩) := by show _ = _; rw [hat.1, hat.2]
        have HK : Hid (plC rls pe tx < rls.length) := hpl
        have HTL : Hid (∀ {w : World} {st : Gs} {F : Nat → Prop} (a : Option Addr) (n k : Nat), RunJ X B w r x c false hd tv rv (.slice (some ⟨rk, 0, none⟩) rls.length lc) rts rls st F → Calls Try.prog 37 #[.pointer (some ⟨r, 0, none⟩), .slice a n k, .int .i64 0, .int .i64 0] w fun e w' => e = .returned (.bool true) ∧ RunJ X B w' r x c false hd tv rv (.slice (some ⟨rk, 0, none⟩) rls.length lc) rts rls st F ∧ Below B w w') := fun a n k hj => told_any X hj a n k 0 (fun h => absurd rfl h)
        rw [HAT.out]
        have g0 : decide (((plC rls pe tx : Nat) : Int) < 0) = false := by simp
        clear hx hat HST HAT HE0 HAD HAD0 hE h1 h2 h3
        have hkI : ((plC rls pe tx : Nat) : Int) < (rls.length : Int) := by omega
        go_wp2_with (first
          | (go_at_call 38; refine HADC.out.mono ?_; rintro e w3 ⟨a, n, cc, F', st', rfl, q1, q2, q3, q4, q5⟩; clear q1; obtain ⟨j3, b3⟩ := HJ.out.call q5 q3 q4)
          | (go_at_call 37; refine (HTL.out a n cc j3).mono ?_; rintro e w4 ⟨rfl, j4, b4⟩; have y8 := cell_of_row w4 r 8 _ _ _ j4.cell; simp only [runC] at y8; obtain ⟨rk', erk, _, yf, ⟨u, yu⟩, hset⟩ := j4.rowC _ HK.out; simp only [Option.some.injEq, Addr.mk.injEq, and_true] at erk; subst erk))
        go_returns
        have hfin := hset ac
        refine ⟨rfl, ⟨rv, .slice (some ⟨rk, 0, none⟩) rls.length lc, st', F', ?_, ?_⟩, (b3.trans b4).trans hfin.2⟩
        · rw [HSA.out, ← HATS.out]
          exact hfin.1
        · rw [HSA.out]
          exact q2.trans ((HSM.out.adS pe tx ac).trans HSS.out.symm)
      · obtain ⟨hxe, hxs⟩ := adE_new (st := ⟨c, rts, rls⟩) h1 h2 h3 hpl
        have HAT : Hid (atP (plC rls pe tx) rls.length = -1) := by show _ = _; unfold atP; rw [if_neg hpl]
        rw [HAT.out]
        by_cases hfull : 24 ≤ rls.length
        · have HE0 : adE st pe tx ac = 10 := by rw [hE]; exact hxe.trans (if_pos hfull)
          have HS0 : Hid (adS st pe tx ac = st) := adS_nz (by rw [HE0]; decide)
          have HSA : Hid (saS rls pe tx ac = rls) := by show _ = _; unfold saS; rw [if_neg hpl, if_pos hfull]
          have HAD0 := HAD.out
          rw [HE0] at HAD0
          have HADC : Hid (Calls Try.prog 38 #[.pointer (some ⟨x, 0, none⟩), .int .i64 pe, .string tx, .int .i64 ac] wr fun e w' => XPost X.Inv F wr x 10 (adS st pe tx ac) e w') := HAD0
          have HTL : Hid (∀ {w : World} {st : Gs} {F : Nat → Prop} (a : Option Addr) (k : Nat), RunJ X B w r x c false hd tv rv (.slice lo rls.length lc) rts rls st F → Calls Try.prog 37 #[.pointer (some ⟨r, 0, none⟩), .slice a 0 k, .int .i64 10, .int .i64 10] w fun e w' => e = .returned (.bool false) ∧ RunJ X B w' r x c false hd tv rv (.slice lo rls.length lc) rts rls st F ∧ Below B w w') := fun a k hj => told_any X hj a 0 k 10 (fun _ => rfl)
          clear hxe hxs HST HAT HE0 HAD HAD0 hE h1 h2 h3 hpl
          go_wp2_with (first
            | (go_at_call 38; refine HADC.out.mono ?_; rintro e w3 ⟨a, n, cc, F', st', rfl, q1, q2, q3, q4, q5⟩; obtain rfl := q1 (by decide); clear q1; obtain ⟨j3, b3⟩ := HJ.out.call q5 q3 q4)
            | (go_at_call 37; refine (HTL.out a cc j3).mono ?_; rintro e w4 ⟨rfl, j4, b4⟩))
          go_returns
          refine ⟨rfl, ⟨rv, .slice lo rls.length lc, st', F', ?_, ?_⟩, b3.trans b4⟩
          · rw [HSA.out]; exact j4
          · rw [HSA.out]
            rw [HS0.out] at q2
            exact q2.trans HSM.out
        · have HE0 : adE st pe tx ac = 0 := by rw [hE]; exact hxe.trans (if_neg hfull)
          have g6 : rls.length < 24 := by omega
          have HSA : Hid (saS rls pe tx ac = rls ++ [⟨tx, pe, ac⟩]) := by show _ = _; unfold saS; rw [if_neg hpl, if_neg hfull]
          have HSS : Hid (Sim ⟨c, rts, rls ++ [⟨tx, pe, ac⟩]⟩ (adS ⟨c, rts, rls⟩ pe tx ac)) := by
            have e0 : adE ⟨c, rts, rls⟩ pe tx ac = 0 := hxe.trans (if_neg hfull)
            unfold adS
            rw [if_pos e0, none_filter _ _ hpl]
            exact Sim.refl _
          have HAD0 := HAD.out
          rw [HE0] at HAD0
          have HADC : Hid (Calls Try.prog 38 #[.pointer (some ⟨x, 0, none⟩), .int .i64 pe, .string tx, .int .i64 ac] wr fun e w' => XPost X.Inv F wr x 0 (adS st pe tx ac) e w') := HAD0
          have HTL : Hid (∀ {w : World} {st : Gs} {F : Nat → Prop} (a : Option Addr) (n k : Nat), RunJ X B w r x c false hd tv rv (.slice lo rls.length lc) rts rls st F → Calls Try.prog 37 #[.pointer (some ⟨r, 0, none⟩), .slice a n k, .int .i64 0, .int .i64 0] w fun e w' => e = .returned (.bool true) ∧ RunJ X B w' r x c false hd tv rv (.slice lo rls.length lc) rts rls st F ∧ Below B w w') := fun a n k hj => told_any X hj a n k 0 (fun h => absurd rfl h)
          clear hxe hxs HST HAT HE0 HAD HAD0 hE h1 h2 h3 hpl hfull
          go_wp2_with (first
            | (go_at_call 38; refine HADC.out.mono ?_; rintro e w3 ⟨a, n, cc, F', st', rfl, q1, q2, q3, q4, q5⟩; clear q1; obtain ⟨j3, b3⟩ := HJ.out.call q5 q3 q4)
            | (go_at_call 37; refine (HTL.out a n cc j3).mono ?_; rintro e w4 ⟨rfl, j4, b4⟩; have y8 := cell_of_row w4 r 8 _ _ _ j4.cell; simp only [runC] at y8; have J4 : Hid (RunJ X B w4 r x c false hd tv rv (.slice lo rls.length lc) rts rls st' F') := j4; have hr4 := j4.lt; have nlo : some r ≠ (Value.slice lo rls.length lc).ownBlock := fun e => (j4.lF r e.symm).2 rfl; clear j4)
            | (at_builtin; refine wpList_append_lies _ rfl _ _ 31 rfl B 54 i0 _ 3 32 Try.underlying31 hi hz0 hz1 hz2 rfl (by decide) (.slice lo rls.length lc) rls.length (clCs rls) rfl (J4.out.lrow.alloc _) ⟨w4.heap.size, 0, none⟩ 1 1 (clC ⟨tx, pe, ac⟩) rfl rfl (World.news_of_block (heap_alloc_new w4 _)) (clC_one _) (by decide) (by unfold maxLen; omega) (by omega) (by have := J4.out.bz; simp; omega) _ rfl ?_; intro g' cp w8 hown hgrow hat hlt8; have hb8 : w8.heap[r]? = w4.heap[r]? := (hgrow.block r (by simp; omega) nlo).trans ((below_alloc w4 _).block r hr4); have z8 := cell_of_row w8 r 8 _ _ _ (hb8.trans J4.out.cell); have zf := frozen_of_row w8 r 8 _ _ (hb8.trans J4.out.cell); simp only [runC] at z8))
          go_returns
          have hsz := hgrow.size
          simp only [World.size_alloc] at hsz
          have hall : ∀ b, b < w4.heap.size → some b ≠ (Value.slice lo rls.length lc).ownBlock → w8.heap[b]? = w4.heap[b]? := fun b hb hne => (hgrow.block b (by simp; omega) hne).trans ((below_alloc w4 _).block b hb)
          have hoff : Off (fun b => (Value.slice lo rls.length lc).ownBlock = some b) w4 w8 := ⟨hgrow.os, hgrow.tape, hgrow.output, by omega, fun b hb hn => hall b hb (fun e => hn e.symm)⟩
          have hrow' : w8.ownsRow B 54 3 (.slice (some ⟨g', 0, none⟩) (rls.length + 1) cp) (rls ++ [(⟨tx, pe, ac⟩ : Rl)]).length (clCs (rls ++ [(⟨tx, pe, ac⟩ : Rl)])) := by
            have e : clCs (rls ++ [(⟨tx, pe, ac⟩ : Rl)]) = clCs rls ++ clC ⟨tx, pe, ac⟩ := by simp [clCs]
            rw [e, List.length_append]; exact hown
          have hfin := J4.out.growC hoff hrow' (fun b hb => by
            have e : g' = b := by simpa [Value.ownBlock] using hb
            subst e
            rcases hat with hat | hat
            · exact .inl hat
            · simp at hat; exact .inr (by omega))
          refine ⟨rfl, ⟨rv, .slice (some ⟨g', 0, none⟩) (rls.length + 1) cp, st', F', ?_, ?_⟩, (b3.trans b4).trans hfin.2⟩
          · rw [HSA.out]; exact hfin.1
          · rw [HSA.out]
            exact q2.trans ((HSM.out.adS pe tx ac).trans HSS.out.symm)
end Go.Proofs.Ytdepfhkhkocehab
