import Derived.Test.YtgkiknfpcbcnnabGreatScc
import Derived.Test.YtgkiknfpcbcnnabGreatGd
import Derived.Deep.RegionWith
namespace Go.Proofs.YtgkiknfpcbcnnabGreat
open Go.RowKit
set_option maxRecDepth 20000

/-- A step of a script on one gate. -/
structure StS where
  kd : Int
  pr : Int
  nn : Int
  lo : Option Addr
  ll : Nat
  lc : Nat
  ak : Bool
/-- Numbers that came in, in blocks below B. -/
def IntsB (w : World) (B : Nat) (ao : Option Addr) (n : Nat) : Prop :=
  ∀ i, i < n → ∃ b off z, ao = some ⟨b, off, none⟩ ∧ b < B ∧ w.cell? ⟨b, off + i, none⟩ = some (.int .i64 z) ∧ -9223372036854775808 ≤ z ∧ z ≤ 9223372036854775807
theorem IntsB.below {w w' : World} {B : Nat} {ao : Option Addr} {n : Nat} (h : IntsB w B ao n) (hb : Below B w w') : IntsB w' B ao n := by
  intro i hi
  obtain ⟨b, off, z, e, hlt, hc, h1, h2⟩ := h i hi
  exact ⟨b, off, z, e, hlt, (hb.cell (p := ⟨b, off + i, none⟩) hlt).trans hc, h1, h2⟩
theorem IntsB.at_ {w : World} {B : Nat} {ao : Option Addr} {n : Nat} (h : IntsB w B ao n) : IntsAt w ao n := fun i hi => by
  obtain ⟨b, off, z, e, _, hc, h1, h2⟩ := h i hi
  exact ⟨b, off, z, e, hc, h1, h2⟩
structure StOK (w : World) (B : Nat) (s : StS) : Prop where
  pr : i64 s.pr
  nn : i64 s.nn
  ll : s.ll ≤ 9223372036854775807
  ints : IntsB w B s.lo s.ll
def StepsB (w : World) (B : Nat) (ao : Option Addr) (l : List StS) : Prop := ∀ i (h : i < l.length), (∃ b off, ao = some ⟨b, off, none⟩ ∧ b < B ∧ w.cell? ⟨b, off + i * 5, none⟩ = some (.int .i64 l[i].kd) ∧ w.cell? ⟨b, off + i * 5 + 1, none⟩ = some (.int .i64 l[i].pr) ∧ w.cell? ⟨b, off + i * 5 + 2, none⟩ = some (.int .i64 l[i].nn) ∧ w.cell? ⟨b, off + i * 5 + 3, none⟩ = some (.slice l[i].lo l[i].ll l[i].lc) ∧ w.cell? ⟨b, off + i * 5 + 4, none⟩ = some (.bool l[i].ak)) ∧ StOK w B l[i]
theorem StepsB.below {w w' : World} {B : Nat} {ao : Option Addr} {l : List StS} (h : StepsB w B ao l) (hb : Below B w w') : StepsB w' B ao l := by
  intro i hi
  obtain ⟨⟨b, off, e, hlt, c0, c1, c2, c3, c4⟩, h1⟩ := h i hi
  exact ⟨⟨b, off, e, hlt, (hb.cell (p := ⟨b, off + i * 5, none⟩) hlt).trans c0, (hb.cell (p := ⟨b, off + i * 5 + 1, none⟩) hlt).trans c1, (hb.cell (p := ⟨b, off + i * 5 + 2, none⟩) hlt).trans c2, (hb.cell (p := ⟨b, off + i * 5 + 3, none⟩) hlt).trans c3, (hb.cell (p := ⟨b, off + i * 5 + 4, none⟩) hlt).trans c4⟩, h1.pr, h1.nn, h1.ll, h1.ints.below hb⟩
theorem RunI.below {X : XGate} {B : Nat} {w w' : World} {r x : Nat} {c : Cf} {lk : Bool} {hd : Hd} {gs : Nat → Option Obj} {rts : List Rt} {rls : List Rl} (h : RunI X B w r x c lk hd gs rts rls) (hb : Below w.heap.size w w') : RunI X B w' r x c lk hd gs rts rls := by
  obtain ⟨tv, rv, lv, st, F, hj, hs, ht⟩ := h.ex
  exact ⟨tv, rv, lv, st, F, hj.below hb, hs, ht⟩
theorem RunI.bz {X : XGate} {B : Nat} {w : World} {r x : Nat} {c : Cf} {lk : Bool} {hd : Hd} {gs : Nat → Option Obj} {rts : List Rt} {rls : List Rl} (h : RunI X B w r x c lk hd gs rts rls) : B ≤ w.heap.size := by
  obtain ⟨tv, rv, lv, st, F, hj, hs, ht⟩ := h.ex
  exact hj.bz
theorem RunI.look {X : XGate} {B : Nat} {w : World} {r x : Nat} {c : Cf} {lk : Bool} {hd : Hd} {gs : Nat → Option Obj} {rts : List Rt} {rls : List Rl} (h : RunI X B w r x c lk hd gs rts rls) : w.cell? ⟨r, 10, none⟩ = some (.bool lk) ∧ w.cell? ⟨r, 9, none⟩ = some (.bool true) := by
  obtain ⟨tv, rv, lv, st, F, hj, hs, ht⟩ := h.ex
  obtain ⟨_, _, _, _, _, _, _, _, _, c9, c10, _⟩ := hj.read
  exact ⟨c10, c9⟩
/-- A block that came in later is a guest: no call on the run touches it. -/
def gsAdd (gs : Nat → Option Obj) (k : Nat) (o : Obj) (b : Nat) : Option Obj := if b = k then some o else gs b
theorem RunI.host {X : XGate} {B : Nat} {w w' : World} {r x : Nat} {c : Cf} {lk : Bool} {hd : Hd} {gs : Nat → Option Obj} {rts : List Rt} {rls : List Rl} (h : RunI X B w r x c lk hd gs rts rls) (hb : Below w.heap.size w w') {k : Nat} {o : Obj} (hk : w.heap.size ≤ k) (ho : w'.heap[k]? = some o) : RunI X B w' r x c lk hd (gsAdd gs k o) rts rls := by
  obtain ⟨tv, rv, lv, st, F, hj, hs, ht⟩ := h.ex
  have j := hj.below hb
  refine ⟨tv, rv, lv, st, F, ⟨j.cell, j.rrow, j.lrow, j.inv, j.br, j.nF, j.bF, j.rF, j.lF, j.trow, j.tF, j.hok, ?_⟩, hs, ht⟩
  intro b o' hg
  unfold gsAdd at hg
  split at hg
  · rename_i e
    subst e
    simp only [Option.some.injEq] at hg
    subst hg
    refine ⟨ho, ?_, ?_, ?_, ?_⟩
    · have := hj.lt; omega
    · intro hf; have := X.lt hj.inv b hf; omega
    · intro e; have := (World.ownsRow.lt hj.rrow b e).2; omega
    · intro e; have := (World.ownsRow.lt hj.lrow b e).2; omega
  · exact j.gst b o' hg
theorem RunI.leave {X : XGate} {B : Nat} {w : World} {r x : Nat} {c : Cf} {lk : Bool} {hd : Hd} {gs : Nat → Option Obj} {rts : List Rt} {rls : List Rl} {k : Nat} {o : Obj} (h : RunI X B w r x c lk hd (gsAdd gs k o) rts rls) (hk : gs k = none) : RunI X B w r x c lk hd gs rts rls := by
  obtain ⟨tv, rv, lv, st, F, j, hs, ht⟩ := h.ex
  refine ⟨tv, rv, lv, st, F, ⟨j.cell, j.rrow, j.lrow, j.inv, j.br, j.nF, j.bF, j.rF, j.lF, j.trow, j.tF, j.hok, ?_⟩, hs, ht⟩
  intro b o' hg
  refine j.gst b o' ?_
  unfold gsAdd
  rw [if_neg]
  · exact hg
  · intro e; subst e; rw [hk] at hg; cases hg
theorem RunI.new_none {X : XGate} {B : Nat} {w : World} {r x : Nat} {c : Cf} {lk : Bool} {hd : Hd} {gs : Nat → Option Obj} {rts : List Rt} {rls : List Rl} (h : RunI X B w r x c lk hd gs rts rls) {k : Nat} (hk : w.heap.size ≤ k) : gs k = none := by
  obtain ⟨tv, rv, lv, st, F, j, hs, ht⟩ := h.ex
  cases hg : gs k with
  | none => rfl
  | some o => have := j.glt hg; omega
theorem RunI.guest {X : XGate} {B : Nat} {w : World} {r x : Nat} {c : Cf} {lk : Bool} {hd : Hd} {gs : Nat → Option Obj} {rts : List Rt} {rls : List Rl} {k : Nat} {o : Obj} (h : RunI X B w r x c lk hd (gsAdd gs k o) rts rls) : w.heap[k]? = some o := by
  obtain ⟨tv, rv, lv, st, F, j, hs, ht⟩ := h.ex
  exact (j.gst k o (by unfold gsAdd; rw [if_pos rfl])).1
/-- What is asked of asked, where the writes are looked at. -/
def AskOK (X : XGate) (lk : Bool) : Prop := lk = true → ∀ {B : Nat} {w : World} {r x : Nat} {c : Cf} {hd : Hd} {gs : Nat → Option Obj} {rts : List Rt} {rls : List Rl}, RunI X B w r x c lk hd gs rts rls → Calls Tryz.prog 24 #[.pointer (some ⟨r, 0, none⟩)] w fun e w' => e = .returned (.tuple #[]) ∧ RunI X B w' r x c lk hd gs rts rls ∧ Below B w w'
theorem ask_off (X : XGate) : AskOK X false := fun h => by cases h

theorem peOK_pk (c : Int) : peOK (pk c 4) = true := by
  have := pk_bd c 4 (by omega)
  simp only [peOK, Bool.and_eq_true, decide_eq_true_eq]
  omega
theorem paOK_pk (c : Int) : paOK (1 + pk c 255) = true := by
  have := pk_bd c 255 (by omega)
  simp only [paOK, Bool.and_eq_true, decide_eq_true_eq]
  omega
theorem grown_below {w w' : World} {M : Nat} (h : w.grownBy w' (some M)) {n : Nat} (hn : n ≤ M) (hz : n ≤ w.heap.size) : Below n w w' := ⟨h.os, h.tape, h.output, h.size, fun k hk => h.block k (by omega) (by simp; omega)⟩
theorem made_rule {ps : List Pt} (h : isR ps = true) : (decS (wParts ps)).isSome = true ∧ (wParts ps).size ≤ 140737488351232 := by
  refine ⟨by rw [decS_complete ps h]; rfl, ?_⟩
  obtain ⟨l5, l0, hts⟩ := isR_small h
  have hall : allP 0 ps = true := by unfold isR at h; simp only [Bool.and_eq_true] at h; exact h.1
  have hsz := wParts_size ps 0 hall
  omega

set_option maxHeartbeats 3200000 in
theorem play_any (X : XGate) {lk : Bool} (HTD : Hid (ToldOK X lk)) (HAS : Hid (AskOK X lk)) {B : Nat} {w : World} {r x : Nat} {c : Cf} {hd : Hd} {gs : Nat → Option Obj} {rts : List Rt} {rls : List Rl} (h : RunI X B w r x c lk hd gs rts rls) (l : List StS) (ao : Option Addr) (cap : Nat) (hl : l.length ≤ 9223372036854775807) (hs : StepsB w B ao l) :
    Calls Tryz.prog 25 #[.pointer (some ⟨r, 0, none⟩), .slice ao l.length cap] w fun e w' => e = .returned (.tuple #[]) ∧ (∃ rts' rls', RunI X B w' r x c lk hd gs rts' rls') ∧ Below B w w' := by
  have HI : Hid (RunI X B w r x c lk hd gs rts rls) := h
  have HS : Hid (StepsB w B ao l) := hs
  clear h hs
  go_enter Tryz.func25, Tryz.ntmps25
  go_wp2_with fail
  go_loopw [4] (fun y wr => ∃ (i : Nat) (rts' : List Rt) (rls' : List Rl), y = .int .i64 i ∧ i ≤ l.length ∧ Hid (RunI X B wr r x c lk hd gs rts' rls') ∧ Below B w wr) (fun y _ => l.length - (intOf y).toNat)
  case atStart => exact ⟨0, rts, rls, rfl, Nat.zero_le _, HI, Below.refl _ _⟩
  case round =>
    clear HI
    obtain ⟨i, rts1, rls1, rfl, hil, HR, hbel⟩ := hrel
    by_cases hlt : i < l.length
    · obtain ⟨⟨b, off, rfl, hbz, c0, c1, c2, c3, c4⟩, hst⟩ := HS.out.below hbel i hlt
      generalize l[i] = s at *
      obtain ⟨kd, pr, nn, lo, ll, lc, ak⟩ := s
      simp only [] at c0 c1 c2 c3 c4
      obtain ⟨s1, s2, s3, s4⟩ := hst
      simp only [] at s1 s2 s3 s4
      have HIN : Hid (IntsB wr B lo ll) := s4
      have HPE : Hid (peOK (pk pr 4) = true) := peOK_pk pr
      have HPA : Hid (paOK (1 + pk nn 255) = true) := paOK_pk nn
      have HPK : Hid (∀ w, Calls Tryz.prog 32 #[.int .i64 pr, .int .i64 4] w fun e w' => e = .returned (.int .i64 (pk pr 4)) ∧ w = w') := fun w => pick_any pr 4 w s1.1 s1.2 (by omega) (by omega)
      have HPN : Hid (∀ w, Calls Tryz.prog 32 #[.int .i64 nn, .int .i64 255] w fun e w' => e = .returned (.int .i64 (pk nn 255)) ∧ w = w') := fun w => pick_any nn 255 w s2.1 s2.2 (by omega) (by omega)
      obtain ⟨pn0, pn1⟩ := pk_bd nn 255 (by omega)
      obtain ⟨pp0, pp1⟩ := pk_bd pr 4 (by omega)
      generalize pk nn 255 = pn at *
      generalize pk pr 4 = pp at *
      have HWR : Hid (IntKind.i64.wrap (1 + pn) = 1 + pn) := by
        show _ = _
        simp [IntKind.wrap, IntKind.signed, IntKind.bits]
        omega
      clear s1 s2 s4
      have hBz := HR.out.bz
      have HGN : Hid (gs wr.heap.size = none) := HR.out.new_none (Nat.le_refl _)
      obtain ⟨wA, hwA⟩ : ∃ wA, wA = wr.alloc (.cells #[.int .i64 kd, .int .i64 pr, .int .i64 nn, .slice lo ll lc, .bool ak] 112) := ⟨_, rfl⟩
      have HWA : Hid (wA = wr.alloc (.cells #[.int .i64 kd, .int .i64 pr, .int .i64 nn, .slice lo ll lc, .bool ak] 112)) := hwA
      have hbA : Below wr.heap.size wr wA := by rw [hwA]; exact below_alloc _ _
      have hzA : wA.heap.size = wr.heap.size + 1 := by rw [hwA]; simp
      have hsA : wA.heap[wr.heap.size]? = some (.cells #[.int .i64 kd, .int .i64 pr, .int .i64 nn, .slice lo ll lc, .bool ak] 112 (0, 0)) := by rw [hwA]; exact heap_alloc_new wr _
      clear hwA
      obtain ⟨wM, hwM⟩ : ∃ wM, wM = wA.alloc (.cells #[.slice lo ll lc, .int .i64 0] 93) := ⟨_, rfl⟩
      have HWM : Hid (wM = wA.alloc (.cells #[.slice lo ll lc, .int .i64 0] 93)) := hwM
      have HMK : Hid (Mk wM (wr.heap.size + 1) lo ll lc) := by
        have := Mk.made (w := wA) (cap := lc) ((HIN.out.below (hbA.mono hBz)).at_) s3
        rw [← hwM, hzA] at this
        exact this
      have hbM : Below wr.heap.size wr wM := by rw [hwM]; exact hbA.alloc hbA.size _
      have hsM : wM.heap[wr.heap.size]? = some (.cells #[.int .i64 kd, .int .i64 pr, .int .i64 nn, .slice lo ll lc, .bool ak] 112 (0, 0)) := by rw [hwM]; exact (heap_alloc_old wA _ (by omega)).trans hsA
      have hzM : wM.heap.size = wr.heap.size + 1 + 1 := by rw [hwM]; simp [hzA]
      clear hwM
      by_cases k1 : kd = 1
      · subst k1
        have HRT : Hid (∀ bt ln, prefOK bt ln = true → ∀ W, Below wr.heap.size wr W → W.heap[wr.heap.size]? = some (.cells #[.int .i64 1, .int .i64 pr, .int .i64 nn, .slice lo ll lc, .bool ak] 112 (0, 0)) → Calls Tryz.prog 23 #[.pointer (some ⟨r, 0, none⟩), .int .i64 pp, .agg #[.int .i64 bt, .int .i64 ln], .int .i64 (1 + pn)] W fun e w' => e = .returned (.tuple #[]) ∧ (∃ rts' rls', RunI X B w' r x c lk hd (gsAdd gs wr.heap.size (.cells #[.int .i64 1, .int .i64 pr, .int .i64 nn, .slice lo ll lc, .bool ak] 112 (0, 0))) rts' rls') ∧ Below B wr w') := fun bt ln hpf W hW hO =>
          (route_any X HTD (HR.out.host hW (Nat.le_refl _) hO) _ bt ln _ HPE.out hpf HPA.out).mono fun e w' h' => ⟨h'.1, ⟨_, _, h'.2.1⟩, (hW.mono hBz).trans h'.2.2⟩
        go_wp2_with (go_at_call 32; refine (HPK.out _).mono ?_; rintro e w' ⟨rfl, rfl⟩)
        rw [← HWA.out, ← HWM.out]
        refine (prefixM_any _ lo ll lc wM HMK.out).mono ?_
        rintro e w2 ⟨bt, ln, rfl, hpf, hmk2, hg2⟩
        have hb2 : Below wr.heap.size wr w2 := hbM.trans (grown_below hg2 (by omega) (by omega))
        have hs2 : w2.heap[wr.heap.size]? = some (.cells #[.int .i64 1, .int .i64 pr, .int .i64 nn, .slice lo ll lc, .bool ak] 112 (0, 0)) := (hg2.block wr.heap.size (by omega) (by simp)).trans hsM
        have HPF : Hid (prefOK bt ln = true) := hpf
        have hz2 := hg2.size
        clear hmk2 hg2 hpf
        have t2 := cell_of_row w2 wr.heap.size 2 _ _ _ hs2
        obtain ⟨w3, hw3⟩ : ∃ w3, w3 = w2.alloc (.cells #[.int .i64 bt, .int .i64 ln] 67) := ⟨_, rfl⟩
        have HW3 : Hid (w3 = w2.alloc (.cells #[.int .i64 bt, .int .i64 ln] 67)) := hw3
        have hb3 : Below wr.heap.size wr w3 := by rw [hw3]; exact hb2.alloc hb2.size _
        have hp3 : PfVar w3 w2.heap.size bt ln := by show _ = _; rw [hw3]; exact heap_alloc_new w2 _
        have t3 : w3.cell? ⟨wr.heap.size, 2, none⟩ = some (.int .i64 nn) := by rw [hw3]; exact ((below_alloc w2 _).cell (p := ⟨wr.heap.size, 2, none⟩) (by show wr.heap.size < w2.heap.size; omega)).trans t2
        obtain ⟨u0, u1, _, _⟩ := hp3.get
        have hs3 : w3.heap[wr.heap.size]? = some (.cells #[.int .i64 1, .int .i64 pr, .int .i64 nn, .slice lo ll lc, .bool ak] 112 (0, 0)) := by rw [hw3]; exact (heap_alloc_old w2 _ (by omega)).trans hs2
        clear hw3
        go_upto_region 9 with fail
        rw [← HW3.out]
        go_region_with (first
          | (go_at_call 32; refine (HPN.out _).mono ?_; rintro e w' ⟨rfl, rfl⟩)
          | (go_at_call 23; rw [HWR.out]; refine (HRT.out bt ln HPF.out _ ?_ ?_).mono ?_; (exact hb3.drew); (exact hs3); rintro e w5 ⟨rfl, ⟨rts5, rls5, r5⟩, b5⟩; have y10 := r5.look.1; have y4 := cell_of_row w5 wr.heap.size 4 _ _ _ r5.guest; have R5 : Hid (RunI X B w5 r x c lk hd (gsAdd gs wr.heap.size (.cells #[.int .i64 1, .int .i64 pr, .int .i64 nn, .slice lo ll lc, .bool ak] 112 (0, 0))) rts5 rls5) := r5; clear r5))
        all_goals
          cases lk
          · clear y4
            go_wp2_with fail
            go_roundw
            case rel => exact ⟨i + 1, rts5, rls5, by go_num, by omega, R5.out.leave HGN.out, hbel.trans b5⟩
            case measure => simp [intOf]; omega
          · simp only [List.getElem?_toArray, List.getElem?_cons_zero, List.getElem?_cons_succ] at y4
            cases ak
            · go_wp2_with fail
              go_roundw
              case rel => exact ⟨i + 1, rts5, rls5, by go_num, by omega, R5.out.leave HGN.out, hbel.trans b5⟩
              case measure => simp [intOf]; omega
            · go_wp2_with (go_at_call 24; refine (HAS.out rfl R5.out).mono ?_; rintro e w6 ⟨rfl, r6, b6⟩)
              go_roundw
              case rel => exact ⟨i + 1, rts5, rls5, by go_num, by omega, r6.leave HGN.out, (hbel.trans b5).trans b6⟩
              case measure => simp [intOf]; omega
      by_cases k2 : kd = 2
      · subst k2
        have HRT : Hid (∀ bt ln, prefOK bt ln = true → ∀ W, Below wr.heap.size wr W → W.heap[wr.heap.size]? = some (.cells #[.int .i64 2, .int .i64 pr, .int .i64 nn, .slice lo ll lc, .bool ak] 112 (0, 0)) → Calls Tryz.prog 51 #[.pointer (some ⟨r, 0, none⟩), .int .i64 pp, .agg #[.int .i64 bt, .int .i64 ln]] W fun e w' => e = .returned (.tuple #[]) ∧ (∃ rts' rls', RunI X B w' r x c lk hd (gsAdd gs wr.heap.size (.cells #[.int .i64 2, .int .i64 pr, .int .i64 nn, .slice lo ll lc, .bool ak] 112 (0, 0))) rts' rls') ∧ Below B wr w') := fun bt ln hpf W hW hO =>
          (back1_any X HTD (HR.out.host hW (Nat.le_refl _) hO) _ bt ln HPE.out hpf).mono fun e w' h' => ⟨h'.1, ⟨_, _, h'.2.1⟩, (hW.mono hBz).trans h'.2.2⟩
        go_wp2_with (go_at_call 32; refine (HPK.out _).mono ?_; rintro e w' ⟨rfl, rfl⟩)
        rw [← HWA.out, ← HWM.out]
        refine (prefixM_any _ lo ll lc wM HMK.out).mono ?_
        rintro e w2 ⟨bt, ln, rfl, hpf, hmk2, hg2⟩
        have hb2 : Below wr.heap.size wr w2 := hbM.trans (grown_below hg2 (by omega) (by omega))
        have HPF : Hid (prefOK bt ln = true) := hpf
        have hb3 : Below wr.heap.size wr (w2.alloc (.cells #[.int .i64 bt, .int .i64 ln] 67)) := hb2.alloc hb2.size _
        have hs3 : (w2.alloc (.cells #[.int .i64 bt, .int .i64 ln] 67)).heap[wr.heap.size]? = some (.cells #[.int .i64 2, .int .i64 pr, .int .i64 nn, .slice lo ll lc, .bool ak] 112 (0, 0)) := (heap_alloc_old w2 _ (by have := hg2.size; omega)).trans ((hg2.block wr.heap.size (by omega) (by simp)).trans hsM)
        clear hmk2 hg2 hpf
        go_upto_region 19 with (go_at_call 51; refine (HRT.out bt ln HPF.out _ hb3 hs3).mono ?_; rintro e w5 ⟨rfl, ⟨rts5, rls5, r5⟩, b5⟩; have y10 := r5.look.1; have y4 := cell_of_row w5 wr.heap.size 4 _ _ _ r5.guest; have R5 : Hid (RunI X B w5 r x c lk hd (gsAdd gs wr.heap.size (.cells #[.int .i64 2, .int .i64 pr, .int .i64 nn, .slice lo ll lc, .bool ak] 112 (0, 0))) rts5 rls5) := r5; clear r5)
        cases lk
        · clear y4
          go_wp2_with fail
          go_roundw
          case rel => exact ⟨i + 1, rts5, rls5, by go_num, by omega, R5.out.leave HGN.out, hbel.trans b5⟩
          case measure => simp [intOf]; omega
        · simp only [List.getElem?_toArray, List.getElem?_cons_zero, List.getElem?_cons_succ] at y4
          cases ak
          · go_wp2_with fail
            go_roundw
            case rel => exact ⟨i + 1, rts5, rls5, by go_num, by omega, R5.out.leave HGN.out, hbel.trans b5⟩
            case measure => simp [intOf]; omega
          · go_wp2_with (go_at_call 24; refine (HAS.out rfl R5.out).mono ?_; rintro e w6 ⟨rfl, r6, b6⟩)
            go_roundw
            case rel => exact ⟨i + 1, rts5, rls5, by go_num, by omega, r6.leave HGN.out, (hbel.trans b5).trans b6⟩
            case measure => simp [intOf]; omega
      by_cases k3 : kd = 3
      · subst k3
        have HRT : Hid (∀ ps, isR ps = true → ∀ W, Below wr.heap.size wr W → W.heap[wr.heap.size]? = some (.cells #[.int .i64 3, .int .i64 pr, .int .i64 nn, .slice lo ll lc, .bool ak] 112 (0, 0)) → Calls Tryz.prog 22 #[.pointer (some ⟨r, 0, none⟩), .int .i64 pp, .string (wParts ps), .int .i64 (1 + pn)] W fun e w' => e = .returned (.tuple #[]) ∧ (∃ rts' rls', RunI X B w' r x c lk hd (gsAdd gs wr.heap.size (.cells #[.int .i64 3, .int .i64 pr, .int .i64 nn, .slice lo ll lc, .bool ak] 112 (0, 0))) rts' rls') ∧ Below B wr w') := fun ps hps W hW hO =>
          (say_any X HTD (HR.out.host hW (Nat.le_refl _) hO) _ _ _ HPE.out (made_rule hps).1 HPA.out (made_rule hps).2).mono fun e w' h' => ⟨h'.1, ⟨_, _, h'.2.1⟩, (hW.mono hBz).trans h'.2.2⟩
        have HMD : Hid (∀ W, Below wM.heap.size wM W → Calls Tryz.prog 52 #[.slice lo ll lc] W fun e w' => ∃ ps : List Pt, e = .returned (.string (wParts ps)) ∧ isR ps = true ∧ Below wM.heap.size wM w') := fun W hW => by
          refine (made_any lo ll lc W s3 ((HIN.out.below ((hbM.trans (hW.mono (by omega))).mono hBz)).at_)).mono ?_
          rintro e w' ⟨ps, rfl, q1, q2⟩
          exact ⟨ps, rfl, q1, hW.trans (q2.mono hW.size)⟩
        have t2 := cell_of_row wM wr.heap.size 2 _ _ _ hsM
        have t3 := cell_of_row wM wr.heap.size 3 _ _ _ hsM
        have HSS : Hid (∀ w', Below wM.heap.size wM w' → w'.cell? ⟨wr.heap.size, 2, none⟩ = some (.int .i64 nn) ∧ w'.cell? ⟨wr.heap.size, 3, none⟩ = some (.slice lo ll lc)) := fun w' hx => ⟨(hx.cell (p := ⟨wr.heap.size, 2, none⟩) (by show wr.heap.size < wM.heap.size; omega)).trans t2, (hx.cell (p := ⟨wr.heap.size, 3, none⟩) (by show wr.heap.size < wM.heap.size; omega)).trans t3⟩
        go_upto_region 14 with (go_at_call 32; refine (HPK.out _).mono ?_; rintro e w' ⟨rfl, rfl⟩)
        rw [← HWA.out, ← HWM.out]
        go_region_with (first
          | (go_at_call 32; refine (HPN.out _).mono ?_; rintro e w' ⟨rfl, rfl⟩)
          | (go_at_call 52; refine (HMD.out _ ?_).mono ?_; (exact (Below.refl _ _).drew); rintro e w4 ⟨ps, rfl, hps, hb4⟩; obtain ⟨v2, v3⟩ := HSS.out w4 hb4)
          | (go_at_call 22; rw [HWR.out]; refine (HRT.out ps hps _ ?_ ?_).mono ?_; (exact hbM.trans (hb4.mono (by omega))); (exact (hb4.block wr.heap.size (by omega)).trans hsM); rintro e w5 ⟨rfl, ⟨rts5, rls5, r5⟩, b5⟩; have y10 := r5.look.1; have y4 := cell_of_row w5 wr.heap.size 4 _ _ _ r5.guest; have R5 : Hid (RunI X B w5 r x c lk hd (gsAdd gs wr.heap.size (.cells #[.int .i64 3, .int .i64 pr, .int .i64 nn, .slice lo ll lc, .bool ak] 112 (0, 0))) rts5 rls5) := r5; clear r5))
        all_goals
          cases lk
          · clear y4
            go_wp2_with fail
            go_roundw
            case rel => exact ⟨i + 1, rts5, rls5, by go_num, by omega, R5.out.leave HGN.out, hbel.trans b5⟩
            case measure => simp [intOf]; omega
          · simp only [List.getElem?_toArray, List.getElem?_cons_zero, List.getElem?_cons_succ] at y4
            cases ak
            · go_wp2_with fail
              go_roundw
              case rel => exact ⟨i + 1, rts5, rls5, by go_num, by omega, R5.out.leave HGN.out, hbel.trans b5⟩
              case measure => simp [intOf]; omega
            · go_wp2_with (go_at_call 24; refine (HAS.out rfl R5.out).mono ?_; rintro e w6 ⟨rfl, r6, b6⟩)
              go_roundw
              case rel => exact ⟨i + 1, rts5, rls5, by go_num, by omega, r6.leave HGN.out, (hbel.trans b5).trans b6⟩
              case measure => simp [intOf]; omega
      by_cases k4 : kd = 4
      · subst k4
        have HRT : Hid (∀ ps, isR ps = true → ∀ W, Below wr.heap.size wr W → W.heap[wr.heap.size]? = some (.cells #[.int .i64 4, .int .i64 pr, .int .i64 nn, .slice lo ll lc, .bool ak] 112 (0, 0)) → Calls Tryz.prog 53 #[.pointer (some ⟨r, 0, none⟩), .int .i64 pp, .string (wParts ps)] W fun e w' => e = .returned (.tuple #[]) ∧ (∃ rts' rls', RunI X B w' r x c lk hd (gsAdd gs wr.heap.size (.cells #[.int .i64 4, .int .i64 pr, .int .i64 nn, .slice lo ll lc, .bool ak] 112 (0, 0))) rts' rls') ∧ Below B wr w') := fun ps hps W hW hO =>
          (take_any X HTD (HR.out.host hW (Nat.le_refl _) hO) _ _ HPE.out (made_rule hps).1 (made_rule hps).2).mono fun e w' h' => ⟨h'.1, ⟨_, _, h'.2.1⟩, (hW.mono hBz).trans h'.2.2⟩
        have HMD : Hid (Calls Tryz.prog 52 #[.slice lo ll lc] wM fun e w' => ∃ ps : List Pt, e = .returned (.string (wParts ps)) ∧ isR ps = true ∧ Below wM.heap.size wM w') := made_any lo ll lc wM s3 ((HIN.out.below (hbM.mono hBz)).at_)
        go_upto_region 19 with (first
          | (go_at_call 32; refine (HPK.out _).mono ?_; rintro e w' ⟨rfl, rfl⟩)
          | (go_at_call 52; rw [← HWA.out, ← HWM.out]; refine HMD.out.mono ?_; rintro e w4 ⟨ps, rfl, hps, hb4⟩)
          | (go_at_call 53; refine (HRT.out ps hps _ (hbM.trans (hb4.mono (by omega))) ((hb4.block wr.heap.size (by omega)).trans hsM)).mono ?_; rintro e w5 ⟨rfl, ⟨rts5, rls5, r5⟩, b5⟩; have y10 := r5.look.1; have y4 := cell_of_row w5 wr.heap.size 4 _ _ _ r5.guest; have R5 : Hid (RunI X B w5 r x c lk hd (gsAdd gs wr.heap.size (.cells #[.int .i64 4, .int .i64 pr, .int .i64 nn, .slice lo ll lc, .bool ak] 112 (0, 0))) rts5 rls5) := r5; clear r5))
        cases lk
        · clear y4
          go_wp2_with fail
          go_roundw
          case rel => exact ⟨i + 1, rts5, rls5, by go_num, by omega, R5.out.leave HGN.out, hbel.trans b5⟩
          case measure => simp [intOf]; omega
        · simp only [List.getElem?_toArray, List.getElem?_cons_zero, List.getElem?_cons_succ] at y4
          cases ak
          · go_wp2_with fail
            go_roundw
            case rel => exact ⟨i + 1, rts5, rls5, by go_num, by omega, R5.out.leave HGN.out, hbel.trans b5⟩
            case measure => simp [intOf]; omega
          · go_wp2_with (go_at_call 24; refine (HAS.out rfl R5.out).mono ?_; rintro e w6 ⟨rfl, r6, b6⟩)
            go_roundw
            case rel => exact ⟨i + 1, rts5, rls5, by go_num, by omega, r6.leave HGN.out, (hbel.trans b5).trans b6⟩
            case measure => simp [intOf]; omega
      by_cases k5 : kd = 5
      · subst k5
        have HRT : Hid (Calls Tryz.prog 21 #[.pointer (some ⟨r, 0, none⟩), .int .i64 pp] wM fun e w' => e = .returned (.tuple #[]) ∧ (∃ rts' rls', RunI X B w' r x c lk hd (gsAdd gs wr.heap.size (.cells #[.int .i64 5, .int .i64 pr, .int .i64 nn, .slice lo ll lc, .bool ak] 112 (0, 0))) rts' rls') ∧ Below B wr w') :=
          (gone_any X HTD (HR.out.host hbM (Nat.le_refl _) hsM) _ HPE.out).mono fun e w' h' => ⟨h'.1, ⟨_, _, h'.2.1⟩, (hbM.mono hBz).trans h'.2.2⟩
        go_upto_region 19 with (first
          | (go_at_call 32; refine (HPK.out _).mono ?_; rintro e w' ⟨rfl, rfl⟩)
          | (go_at_call 21; rw [← HWA.out, ← HWM.out]; refine HRT.out.mono ?_; rintro e w5 ⟨rfl, ⟨rts5, rls5, r5⟩, b5⟩; have y10 := r5.look.1; have y4 := cell_of_row w5 wr.heap.size 4 _ _ _ r5.guest; have R5 : Hid (RunI X B w5 r x c lk hd (gsAdd gs wr.heap.size (.cells #[.int .i64 5, .int .i64 pr, .int .i64 nn, .slice lo ll lc, .bool ak] 112 (0, 0))) rts5 rls5) := r5; clear r5))
        cases lk
        · clear y4
          go_wp2_with fail
          go_roundw
          case rel => exact ⟨i + 1, rts5, rls5, by go_num, by omega, R5.out.leave HGN.out, hbel.trans b5⟩
          case measure => simp [intOf]; omega
        · simp only [List.getElem?_toArray, List.getElem?_cons_zero, List.getElem?_cons_succ] at y4
          cases ak
          · go_wp2_with fail
            go_roundw
            case rel => exact ⟨i + 1, rts5, rls5, by go_num, by omega, R5.out.leave HGN.out, hbel.trans b5⟩
            case measure => simp [intOf]; omega
          · go_wp2_with (go_at_call 24; refine (HAS.out rfl R5.out).mono ?_; rintro e w6 ⟨rfl, r6, b6⟩)
            go_roundw
            case rel => exact ⟨i + 1, rts5, rls5, by go_num, by omega, r6.leave HGN.out, (hbel.trans b5).trans b6⟩
            case measure => simp [intOf]; omega
      have q1 : (kd == 1) = false := by simpa using k1
      have q2 : (kd == 2) = false := by simpa using k2
      have q3 : (kd == 3) = false := by simpa using k3
      have q4 : (kd == 4) = false := by simpa using k4
      have q5 : (kd == 5) = false := by simpa using k5
      have R5 : Hid (RunI X B wM r x c lk hd (gsAdd gs wr.heap.size (.cells #[.int .i64 kd, .int .i64 pr, .int .i64 nn, .slice lo ll lc, .bool ak] 112 (0, 0))) rts1 rls1) := HR.out.host hbM (Nat.le_refl _) hsM
      have y10 := R5.out.look.1
      have y4 := cell_of_row wM wr.heap.size 4 _ _ _ hsM
      clear k1 k2 k3 k4 k5
      go_upto_region 19 with (go_at_call 32; refine (HPK.out _).mono ?_; rintro e w' ⟨rfl, rfl⟩)
      rw [← HWA.out, ← HWM.out]
      cases lk
      · clear y4
        go_wp2_with fail
        go_roundw
        case rel => exact ⟨i + 1, rts1, rls1, by go_num, by omega, R5.out.leave HGN.out, hbel.trans (hbM.mono hBz)⟩
        case measure => simp [intOf]; omega
      · simp only [List.getElem?_toArray, List.getElem?_cons_zero, List.getElem?_cons_succ] at y4
        cases ak
        · go_wp2_with fail
          go_roundw
          case rel => exact ⟨i + 1, rts1, rls1, by go_num, by omega, R5.out.leave HGN.out, hbel.trans (hbM.mono hBz)⟩
          case measure => simp [intOf]; omega
        · go_wp2_with (go_at_call 24; refine (HAS.out rfl R5.out).mono ?_; rintro e w6 ⟨rfl, r6, b6⟩)
          go_roundw
          case rel => exact ⟨i + 1, rts1, rls1, by go_num, by omega, r6.leave HGN.out, (hbel.trans (hbM.mono hBz)).trans b6⟩
          case measure => simp [intOf]; omega
    · go_wp2_with fail
      go_returns
      exact ⟨rfl, ⟨rts1, rls1, HR.out⟩, hbel⟩
end Go.Proofs.YtgkiknfpcbcnnabGreat
