import Derived.Test.YtgkiknfpcbcnnaaGreatGk
import Derived.Test.YtgkiknfpcbcnnaaGreatGh
import Derived.Test.YtgkiknfpcbcnnaaGreatGq
namespace Go.Proofs.YtgkiknfpcbcnnaaGreat
open Go.RowKit
set_option maxRecDepth 20000
theorem dS_isP (s : ByteArray) : ∀ j (h : j < (dS s).length), isP (dS s)[j] = true := by
  unfold dS
  cases h : decS s with
  | none => intro j hj; simp at hj
  | some ps =>
    have hR := (decS_sound s ps h).1
    unfold isR at hR
    simp only [Bool.and_eq_true] at hR
    exact allP_get ps 0 hR.1
end Go.Proofs.YtgkiknfpcbcnnaaGreat
namespace Go.Proofs.YtgkiknfpcbcnnaaGreat
open Go.RowKit
set_option maxRecDepth 20000
theorem writePart_b (p : Pt) (ao : Option Addr) (cap : Nat) (w W0 : World) (hp : isP p = true) (ht : TermsIn W0 ao p.ts) (hb : Below W0.heap.size W0 w) :
    Calls Tryz.prog 138 #[.agg #[.int .i64 p.ty, .int .i64 p.bt, .int .i64 p.ln, .slice ao p.ts.length cap]] w fun e w' => e = .returned (.string (wPart p)) ∧ Below W0.heap.size W0 w' :=
  (writePart_any p ao cap w hp (ht.below hb)).mono fun _ _ h => ⟨h.1, hb.trans (h.2.mono hb.size)⟩
theorem compareBytes_b (s t : ByteArray) (w W0 : World) (hs : s.size ≤ 1000) (hb : Below W0.heap.size W0 w) :
    Calls Tryz.prog 137 #[.string s, .string t] w fun e w' => e = .returned (.int .i64 (cmpB (bl s) (bl t))) ∧ Below W0.heap.size W0 w' :=
  (compareBytes_any s t w hs).mono fun _ _ h => ⟨h.1, by obtain ⟨n, rfl⟩ := h.2; exact below_drewN hb n⟩
set_option maxHeartbeats 1000000 in
theorem comparePart_any (p q : Pt) (ao bo : Option Addr) (ca cb : Nat) (w : World) (hp : isP p = true) (hq : isP q = true) (ha : TermsIn w ao p.ts) (hb : TermsIn w bo q.ts) :
    Calls Tryz.prog 130 #[.agg #[.int .i64 p.ty, .int .i64 p.bt, .int .i64 p.ln, .slice ao p.ts.length ca], .agg #[.int .i64 q.ty, .int .i64 q.bt, .int .i64 q.ln, .slice bo q.ts.length cb]] w fun e w' => e = .returned (.int .i64 (cmpP p q)) ∧ Below w.heap.size w w' := by
  unfold cmpP
  by_cases hty : p.ty = q.ty
  · rw [if_pos hty]
    have hbe : (p.ty == q.ty) = true := by simpa using hty
    have HT : Hid (p.ty = q.ty) := hty
    clear hty
    cases hk : hasP p.ty
    · simp only [Bool.false_eq_true, if_false]
      have s1 : (wPart p).size ≤ 1000 := by have := wPart_size hp; omega
      obtain ⟨W0, hW0⟩ : ∃ W0, W0 = (w.alloc (.cells #[.int .i64 p.ty, .int .i64 p.bt, .int .i64 p.ln, .slice ao p.ts.length ca] 140)).alloc (.cells #[.int .i64 q.ty, .int .i64 q.bt, .int .i64 q.ln, .slice bo q.ts.length cb] 140) := ⟨_, rfl⟩
      have b1 : Below (w.alloc (.cells #[.int .i64 p.ty, .int .i64 p.bt, .int .i64 p.ln, .slice ao p.ts.length ca] 140)).heap.size (w.alloc (.cells #[.int .i64 p.ty, .int .i64 p.bt, .int .i64 p.ln, .slice ao p.ts.length ca] 140)) W0 := by rw [hW0]; exact below_alloc _ _
      have b2 : Below W0.heap.size ((w.alloc (.cells #[.int .i64 p.ty, .int .i64 p.bt, .int .i64 p.ln, .slice ao p.ts.length ca] 140)).alloc (.cells #[.int .i64 q.ty, .int .i64 q.bt, .int .i64 q.ln, .slice bo q.ts.length cb] 140)) W0 := by rw [hW0]; exact Below.refl _ _
      obtain ⟨a0, a1, a2, a3, af, az⟩ := cells_of_below b1
      have b3 : Below ((w.alloc (.cells #[.int .i64 p.ty, .int .i64 p.bt, .int .i64 p.ln, .slice ao p.ts.length ca] 140)).alloc (.cells #[.int .i64 q.ty, .int .i64 q.bt, .int .i64 q.ln, .slice bo q.ts.length cb] 140)).heap.size ((w.alloc (.cells #[.int .i64 p.ty, .int .i64 p.bt, .int .i64 p.ln, .slice ao p.ts.length ca] 140)).alloc (.cells #[.int .i64 q.ty, .int .i64 q.bt, .int .i64 q.ln, .slice bo q.ts.length cb] 140)) W0 := by rw [hW0]; exact Below.refl _ _
      obtain ⟨d0, d1, d2, d3, df, dz⟩ := cells_of_below b3
      simp only [World.size_alloc] at d0 d1 d2 d3 dz
      have ha0 := ha.below (below_first b1)
      have hb0 := hb.below (below_first b1)
      have hbw := below_first b1
      have HS : Hid (∀ w' : World, Below W0.heap.size W0 w' → w'.cell? ⟨w.heap.size, 0, none⟩ = some (.int .i64 p.ty) ∧ w'.cell? ⟨w.heap.size, 1, none⟩ = some (.int .i64 p.bt) ∧ w'.cell? ⟨w.heap.size, 2, none⟩ = some (.int .i64 p.ln) ∧ w'.cell? ⟨w.heap.size, 3, none⟩ = some (.slice ao p.ts.length ca) ∧ w'.cell? ⟨w.heap.size + 1, 0, none⟩ = some (.int .i64 q.ty) ∧ w'.cell? ⟨w.heap.size + 1, 1, none⟩ = some (.int .i64 q.bt) ∧ w'.cell? ⟨w.heap.size + 1, 2, none⟩ = some (.int .i64 q.ln) ∧ w'.cell? ⟨w.heap.size + 1, 3, none⟩ = some (.slice bo q.ts.length cb) ∧ Below W0.heap.size W0 w') := fun w' hx =>
        ⟨(hx.cell az).trans a0, (hx.cell az).trans a1, (hx.cell az).trans a2, (hx.cell az).trans a3, (hx.cell dz).trans d0, (hx.cell dz).trans d1, (hx.cell dz).trans d2, (hx.cell dz).trans d3, hx⟩
      clear a1 a2 a3 af d1 d2 d3 df b1 b2 b3 ha hb
      go_enter Tryz.func130, Tryz.ntmps130
      go_wp2_with (go_at_call 114; refine (hasPrefix_any _ _).mono ?_; rintro e w' ⟨rfl, rfl⟩; rw [hk])
      rw [← hW0]
      clear hW0
      go_region_held3 (fun w' => w'.cell? ⟨w.heap.size, 0, none⟩ = some (.int .i64 p.ty) ∧ w'.cell? ⟨w.heap.size, 1, none⟩ = some (.int .i64 p.bt) ∧ w'.cell? ⟨w.heap.size, 2, none⟩ = some (.int .i64 p.ln) ∧ w'.cell? ⟨w.heap.size, 3, none⟩ = some (.slice ao p.ts.length ca) ∧ w'.cell? ⟨w.heap.size + 1, 0, none⟩ = some (.int .i64 q.ty) ∧ w'.cell? ⟨w.heap.size + 1, 1, none⟩ = some (.int .i64 q.bt) ∧ w'.cell? ⟨w.heap.size + 1, 2, none⟩ = some (.int .i64 q.ln) ∧ w'.cell? ⟨w.heap.size + 1, 3, none⟩ = some (.slice bo q.ts.length cb) ∧ Below W0.heap.size W0 w')
        (first | exact HS.out _ (by assumption) | exact HS.out _ (Below.refl _ _).drew | exact HS.out _ (Below.refl _ _))
        (first
          | (go_at_call 138; refine (writePart_b _ _ _ _ W0 (by assumption) (by assumption) (by go_split_ands; assumption)).mono ?_; rintro e w1 ⟨rfl, hb1⟩)
          | (go_at_call 137; refine (compareBytes_b _ _ _ W0 s1 (by go_split_ands; assumption)).mono ?_; rintro e w1 ⟨rfl, hb1⟩))
      go_wp2
      go_ret
      exact ⟨rfl, hbw.trans (hb1.mono (by omega))⟩
    · simp only [if_true]
      have hk2 : hasP q.ty = true := by rw [← HT.out]; exact hk
      have o1 := (isP_pref hp hk).2
      have o2 := (isP_pref hq hk2).2
      clear hk2
      go_enter Tryz.func130, Tryz.ntmps130
      go_wp2_with (first
        | (go_at_call 114; refine (hasPrefix_any _ _).mono ?_; rintro e w' ⟨rfl, rfl⟩; rw [hk])
        | (go_at_call 136; refine (comparePrefixes_any _ _ _ _ _ o1 o2).mono ?_; rintro e w1 ⟨rfl, hb1⟩))
      go_ret
      exact ⟨rfl, ((below_alloc _ _).alloc (by simp) _).trans (hb1.mono (by simp; omega))⟩
  · rw [if_neg hty]
    have hbe : (p.ty == q.ty) = false := by simpa using hty
    clear hty
    go_enter Tryz.func130, Tryz.ntmps130
    go_wp2_with (go_at_call 135; refine (lowerFirst_any _ _ _).mono ?_; rintro e w' ⟨rfl, rfl⟩)
    go_ret
    exact ⟨rfl, (below_alloc _ _).alloc (by simp) _⟩
end Go.Proofs.YtgkiknfpcbcnnaaGreat
namespace Go.Proofs.YtgkiknfpcbcnnaaGreat
open Go.RowKit
set_option maxRecDepth 20000
theorem comparePart_b (p q : Pt) (ao bo : Option Addr) (ca cb : Nat) (w W0 : World) (hp : isP p = true) (hq : isP q = true) (ha : TermsIn W0 ao p.ts) (hb : TermsIn W0 bo q.ts) (hw : Below W0.heap.size W0 w) :
    Calls Tryz.prog 130 #[.agg #[.int .i64 p.ty, .int .i64 p.bt, .int .i64 p.ln, .slice ao p.ts.length ca], .agg #[.int .i64 q.ty, .int .i64 q.bt, .int .i64 q.ln, .slice bo q.ts.length cb]] w fun e w' => e = .returned (.int .i64 (cmpP p q)) ∧ Below W0.heap.size W0 w' :=
  (comparePart_any p q ao bo ca cb w hp hq (ha.below hw) (hb.below hw)).mono fun _ _ h => ⟨h.1, hw.trans (h.2.mono hw.size)⟩
set_option maxHeartbeats 1000000 in
theorem compareParts_any (ps qs : List Pt) (ao bo : Option Addr) (ca cb : Nat) (w : World) (l1 : ps.length ≤ 5) (hP : ∀ j (h : j < ps.length), isP ps[j] = true) (hQ : ∀ j (h : j < qs.length), isP qs[j] = true) (ha : PartsIn w ao ps) (hb : PartsIn w bo qs) :
    Calls Tryz.prog 118 #[.slice ao ps.length ca, .slice bo qs.length cb] w fun e w' => e = .returned (.int .i64 (cmpPs ps qs)) ∧ Below w.heap.size w w' := by
  have HP : Hid (∀ j (h : j < ps.length), isP ps[j] = true) := hP
  have HQ : Hid (∀ j (h : j < qs.length), isP qs[j] = true) := hQ
  clear hP hQ
  go_enter Tryz.func118, Tryz.ntmps118
  go_wp2
  go_loopw [10] (fun x wr => ∃ j : Nat, x = .int .i64 j ∧ j ≤ ps.length ∧ j ≤ qs.length ∧ Below w.heap.size w wr ∧ Hid (cmpPs ps qs = cmpPs (ps.drop j) (qs.drop j))) (fun x _ => ps.length - (intOf x).toNat)
  case atStart => exact ⟨0, rfl, Nat.zero_le _, Nat.zero_le _, Below.refl _ _, rfl⟩
  case round =>
    obtain ⟨j, rfl, hj, hj', hbel, H⟩ := hrel
    by_cases h1 : j < ps.length
    · obtain ⟨b, off, tao, tcap, rfl, c0, c1, c2, c3, hl, ht⟩ := ha.below hbel j h1
      have hp := HP.out j h1
      have hd1 : ps.drop j = ps[j] :: ps.drop (j + 1) := List.drop_eq_getElem_cons h1
      rw [hd1] at H
      clear hd1 ha
      generalize ps[j] = p at *
      have hz := hbel.size
      by_cases h2 : j < qs.length
      · obtain ⟨b', off', tao', tcap', rfl, e0, e1, e2, e3, hl', ht'⟩ := hb.below hbel j h2
        have hq := HQ.out j h2
        have hd2 : qs.drop j = qs[j] :: qs.drop (j + 1) := List.drop_eq_getElem_cons h2
        rw [hd2] at H
        clear hd2 hb
        generalize qs[j] = q at *
        obtain ⟨W0, hW0⟩ : ∃ W0, W0 = wr.alloc (.cells #[.int .i64 p.ty, .int .i64 p.bt, .int .i64 p.ln, .slice tao p.ts.length tcap] 140) := ⟨_, rfl⟩
        have b1 : Below (wr.alloc (.cells #[.int .i64 p.ty, .int .i64 p.bt, .int .i64 p.ln, .slice tao p.ts.length tcap] 140)).heap.size (wr.alloc (.cells #[.int .i64 p.ty, .int .i64 p.bt, .int .i64 p.ln, .slice tao p.ts.length tcap] 140)) W0 := by rw [hW0]; exact Below.refl _ _
        obtain ⟨a0, a1, a2, a3, af, az⟩ := cells_of_below b1
        have bw := below_first b1
        have lb : b' < wr.heap.size := World.block_lt_of_cell? wr _ e0
        have lb0 : b' < W0.heap.size := by omega
        have g0 := (bw.cell (p := ⟨b', off' + j * 4, none⟩) lb).trans e0
        have g1 := (bw.cell (p := ⟨b', off' + j * 4 + 1, none⟩) lb).trans e1
        have g2 := (bw.cell (p := ⟨b', off' + j * 4 + 2, none⟩) lb).trans e2
        have g3 := (bw.cell (p := ⟨b', off' + j * 4 + 3, none⟩) lb).trans e3
        have ht0 := ht.below bw
        have ht0' := ht'.below bw
        have HS : Hid (∀ w' : World, Below W0.heap.size W0 w' → w'.cell? ⟨wr.heap.size, 0, none⟩ = some (.int .i64 p.ty) ∧ w'.cell? ⟨wr.heap.size, 1, none⟩ = some (.int .i64 p.bt) ∧ w'.cell? ⟨wr.heap.size, 2, none⟩ = some (.int .i64 p.ln) ∧ w'.cell? ⟨wr.heap.size, 3, none⟩ = some (.slice tao p.ts.length tcap) ∧ w'.cell? ⟨b', off' + j * 4, none⟩ = some (.int .i64 q.ty) ∧ w'.cell? ⟨b', off' + j * 4 + 1, none⟩ = some (.int .i64 q.bt) ∧ w'.cell? ⟨b', off' + j * 4 + 2, none⟩ = some (.int .i64 q.ln) ∧ w'.cell? ⟨b', off' + j * 4 + 3, none⟩ = some (.slice tao' q.ts.length tcap') ∧ Below W0.heap.size W0 w') := fun w' hx =>
          ⟨(hx.cell az).trans a0, (hx.cell az).trans a1, (hx.cell az).trans a2, (hx.cell az).trans a3, (hx.cell lb0).trans g0, (hx.cell lb0).trans g1, (hx.cell lb0).trans g2, (hx.cell lb0).trans g3, hx⟩
        have i1 : (j : Int) < (qs.length : Int) := by omega
        have d1 : decide ((qs.length : Int) ≤ (j : Int)) = false := by simp; omega
        clear a0 a1 a2 a3 af g0 g1 g2 g3 b1 ht ht'
        cases hc : decide (cmpP p q = 0)
        · have hcn : ¬ cmpP p q = 0 := by simpa using hc
          have HN : Hid (cmpPs ps qs = cmpP p q) := by
            show _ = _
            rw [H.out]
            show (if cmpP p q = 0 then _ else _) = _
            rw [if_neg hcn]
          have hcb : (cmpP p q == 0) = false := by simpa using hcn
          clear H hc hcn
          go_wp2_with fail
          rw [← hW0]
          clear hW0
          go_region_held3 (fun w' => w'.cell? ⟨wr.heap.size, 0, none⟩ = some (.int .i64 p.ty) ∧ w'.cell? ⟨wr.heap.size, 1, none⟩ = some (.int .i64 p.bt) ∧ w'.cell? ⟨wr.heap.size, 2, none⟩ = some (.int .i64 p.ln) ∧ w'.cell? ⟨wr.heap.size, 3, none⟩ = some (.slice tao p.ts.length tcap) ∧ w'.cell? ⟨b', off' + j * 4, none⟩ = some (.int .i64 q.ty) ∧ w'.cell? ⟨b', off' + j * 4 + 1, none⟩ = some (.int .i64 q.bt) ∧ w'.cell? ⟨b', off' + j * 4 + 2, none⟩ = some (.int .i64 q.ln) ∧ w'.cell? ⟨b', off' + j * 4 + 3, none⟩ = some (.slice tao' q.ts.length tcap') ∧ Below W0.heap.size W0 w')
            (first | exact HS.out _ (by assumption) | exact HS.out _ (Below.refl _ _).drew | exact HS.out _ (Below.refl _ _))
            (first | (go_at_call 130; refine (comparePart_b p q _ _ _ _ _ W0 hp hq ht0 ht0' (by go_split_ands; assumption)).mono ?_; rintro e w1 ⟨rfl, hb1⟩))
          go_wp2
          go_ret
          exact ⟨by rw [HN.out]; rfl, hbel.trans ((bw.trans (hb1.mono (by omega))).mono hz)⟩
        · have hcn : cmpP p q = 0 := by simpa using hc
          have HN : Hid (cmpPs ps qs = cmpPs (ps.drop (j + 1)) (qs.drop (j + 1))) := by
            show _ = _
            rw [H.out]
            show (if cmpP p q = 0 then _ else _) = _
            rw [if_pos hcn]
          have hcb : (cmpP p q == 0) = true := by simpa using hcn
          clear H hc hcn
          go_wp2_with fail
          rw [← hW0]
          clear hW0
          go_region_held3 (fun w' => w'.cell? ⟨wr.heap.size, 0, none⟩ = some (.int .i64 p.ty) ∧ w'.cell? ⟨wr.heap.size, 1, none⟩ = some (.int .i64 p.bt) ∧ w'.cell? ⟨wr.heap.size, 2, none⟩ = some (.int .i64 p.ln) ∧ w'.cell? ⟨wr.heap.size, 3, none⟩ = some (.slice tao p.ts.length tcap) ∧ w'.cell? ⟨b', off' + j * 4, none⟩ = some (.int .i64 q.ty) ∧ w'.cell? ⟨b', off' + j * 4 + 1, none⟩ = some (.int .i64 q.bt) ∧ w'.cell? ⟨b', off' + j * 4 + 2, none⟩ = some (.int .i64 q.ln) ∧ w'.cell? ⟨b', off' + j * 4 + 3, none⟩ = some (.slice tao' q.ts.length tcap') ∧ Below W0.heap.size W0 w')
            (first | exact HS.out _ (by assumption) | exact HS.out _ (Below.refl _ _).drew | exact HS.out _ (Below.refl _ _))
            (first | (go_at_call 130; refine (comparePart_b p q _ _ _ _ _ W0 hp hq ht0 ht0' (by go_split_ands; assumption)).mono ?_; rintro e w1 ⟨rfl, hb1⟩))
          go_wp2
          go_roundw
          case rel => exact ⟨j + 1, by go_num, by omega, by omega, hbel.trans ((bw.trans (hb1.mono (by omega))).mono hz), HN⟩
          case measure => simp [intOf]; omega
      · have HN : Hid (cmpPs ps qs = -1) := by show _ = _; rw [H.out, List.drop_of_length_le (l := qs) (by omega)]; rfl
        clear H hb
        go_wp2
        go_ret
        exact ⟨by rw [HN.out]; rfl, hbel.alloc hz _⟩
    · by_cases h2 : j < qs.length
      · have hd2 : qs.drop j = qs[j] :: qs.drop (j + 1) := List.drop_eq_getElem_cons h2
        have HN : Hid (cmpPs ps qs = 1) := by show _ = _; rw [H.out, List.drop_of_length_le (l := ps) (by omega), hd2]; rfl
        clear H hb ha hd2
        have d3 : decide ((ps.length : Int) < (qs.length : Int)) = true := by simp; omega
        go_wp2
        go_ret
        exact ⟨by rw [HN.out]; rfl, hbel⟩
      · have HN : Hid (cmpPs ps qs = 0) := by show _ = _; rw [H.out, List.drop_of_length_le (l := ps) (by omega), List.drop_of_length_le (l := qs) (by omega)]; rfl
        clear H hb ha
        have d3 : decide ((ps.length : Int) < (qs.length : Int)) = false := by simp; omega
        go_wp2
        go_ret
        exact ⟨by rw [HN.out]; rfl, hbel⟩
end Go.Proofs.YtgkiknfpcbcnnaaGreat
namespace Go.Proofs.YtgkiknfpcbcnnaaGreat
open Go.RowKit
set_option maxRecDepth 20000
def cC (a b : ByteArray) : Int := if (decS a).isSome && (decS b).isSome then cmpPs (dS a) (dS b) else 0
def cE (a b : ByteArray) : Int := if (decS a).isSome && (decS b).isSome then 0 else 1
theorem eS_none {s : ByteArray} (h : (decS s).isSome = false) : eS s = 1 := by unfold eS; simp [h]
theorem eS_some {s : ByteArray} (h : (decS s).isSome = true) : eS s = 0 := by unfold eS; simp [h]
set_option maxHeartbeats 1000000 in
theorem compare_any (a b : ByteArray) (w : World) (ha : a.size ≤ 140737488351232) (hb : b.size ≤ 140737488351232) :
    Calls Tryz.prog 96 #[.string a, .string b] w fun e w' => e = .returned (.tuple #[.int .i64 (cC a b), .int .i64 (cE a b)]) ∧ Below w.heap.size w w' := by
  obtain ⟨d5, dts⟩ := dS_small a
  obtain ⟨d5', dts'⟩ := dS_small b
  have HP : Hid (∀ j (h : j < (dS a).length), isP (dS a)[j] = true) := dS_isP a
  have HQ : Hid (∀ j (h : j < (dS b).length), isP (dS b)[j] = true) := dS_isP b
  unfold cC cE
  cases h1 : (decS a).isSome
  · simp only [Bool.false_and, Bool.false_eq_true, if_false]
    have e1 := eS_none h1
    clear h1
    go_enter Tryz.func96, Tryz.ntmps96
    go_wp2_with fail
    refine (flow2 a _ ha).mono ?_
    rintro e w1 ⟨hb1, ao, cap, qs, rfl, hq, hr⟩
    rw [e1]
    go_wp2
    go_ret2
    exact ⟨rfl, hb1.alloc hb1.size _⟩
  · have e1 := eS_some h1
    clear h1
    cases h2 : (decS b).isSome
    · simp only [Bool.and_false, Bool.false_eq_true, if_false]
      have e2 := eS_none h2
      clear h2
      go_enter Tryz.func96, Tryz.ntmps96
      go_wp2_with fail
      refine (flow2 a _ ha).mono ?_
      rintro e w1 ⟨hb1, ao, cap, qs, rfl, hq, hr⟩
      rw [e1]
      go_wp2_with fail
      refine (flow2 b _ hb).mono ?_
      rintro e w2 ⟨hb2, bo, cap', qs', rfl, hq', hr'⟩
      rw [e2]
      have hz1 := hb1.size
      have hz2 := (below_first hb2).size
      go_wp2
      go_ret2
      exact ⟨rfl, ((hb1.trans ((below_first hb2).mono hz1)).alloc (by omega) _)⟩
    · simp only [Bool.and_self, if_true]
      have e2 := eS_some h2
      clear h2
      go_enter Tryz.func96, Tryz.ntmps96
      go_wp2_with fail
      refine (flow2 a _ ha).mono ?_
      rintro e w1 ⟨hb1, ao, cap, qs, rfl, hq, hr⟩
      have hp1 := hr.reads2 hq rfl dts
      clear hq hr dts
      rw [e1]
      go_wp2_with fail
      refine (flow2 b _ hb).mono ?_
      rintro e w2 ⟨hb2, bo, cap', qs', rfl, hq', hr'⟩
      have hp2 := hr'.reads2 hq' rfl dts'
      clear hq' hr' dts'
      rw [e2]
      have r0 : w2.cell? ⟨w1.heap.size, 0, none⟩ = some (.slice ao (dS a).length cap) := (hb2.cell (by simp)).trans (by simp [go_sem])
      have z2 := hb2.size
      simp only [World.size_alloc] at z2
      have zz : w1.heap.size < w2.heap.size := by omega
      have hz1 := hb1.size
      have q1 := (hp1.below (below_first hb2)).below (below_alloc w2 (.cells #[.slice bo (dS b).length cap'] 114))
      have q2 := hp2.below (below_alloc w2 (.cells #[.slice bo (dS b).length cap'] 114))
      go_wp2_with (go_at_call 118; refine (compareParts_any (dS a) (dS b) _ _ _ _ _ d5 HP.out HQ.out q1 q2).mono ?_; rintro e w3 ⟨rfl, hb3⟩)
      go_ret2
      exact ⟨rfl, hb1.trans (((below_first hb2).trans ((below_first hb3).mono (by omega))).mono hz1)⟩
end Go.Proofs.YtgkiknfpcbcnnaaGreat
