import Derived.Test.YtgkiknfpcbcnnaaGreatLba
import Derived.Test.YtgkiknfpcbcnnaaGreatGh
import Derived.Test.YtgkiknfpcbcnnaaGreatGp
import Derived.Test.YtgkiknfpcbcnnaaGreatGah
namespace Go.Proofs.YtgkiknfpcbcnnaaGreat
open Go.RowKit
set_option maxRecDepth 20000
theorem networkOf_any (g : Nat) (c : Cf) (p : Int) (w : World) (hn : ∀ i : Nat, i < 4 → w.cell? ⟨g, 2 + i, none⟩ = some (.int .i64 (netF c i))) :
    Calls Tryz.prog 104 #[.pointer (some ⟨g, 0, none⟩), .int .i64 p] w fun e w' => e = .returned (.int .i64 (netO c p)) ∧ w = w' := by
  have n0 := hn 0 (by omega)
  have n1 := hn 1 (by omega)
  have n2 := hn 2 (by omega)
  have n3 := hn 3 (by omega)
  have HP : Hid (∀ q, Proofs.YtgkiknfpcbcnnaaGreat.peOK q = true → netO c q = netF c q) := fun q hq => by unfold netO; rw [if_pos hq]
  obtain ⟨R, hR⟩ : ∃ R, R = netO c p := ⟨_, rfl⟩
  have HR : Hid (R = netO c p) := hR
  rw [← hR]; clear hR hn
  cases hp : peOK p
  · have HF : Hid (R = 0) := by show _ = _; rw [HR.out]; unfold netO; rw [hp]; rfl
    have HQ : Hid (peOK p = false) := hp
    clear HR hp
    go_enter Tryz.func104, Tryz.ntmps104
    go_wp2_with (go_at_call 58; refine (isPeer_any _ _).mono ?_; rintro e w' ⟨rfl, rfl⟩; rw [HQ.out])
    go_ret
    exact ⟨by rw [HF.out]; rfl, rfl⟩
  · have hb := peOK_bd hp
    have HF : Hid (R = netF c p) := by show _ = _; rw [HR.out, HP.out p hp]
    have HQ : Hid (peOK p = true) := hp
    clear HR hp HP
    have : p = 0 ∨ p = 1 ∨ p = 2 ∨ p = 3 := by omega
    rcases this with rfl | rfl | rfl | rfl
    all_goals
      go_enter Tryz.func104, Tryz.ntmps104
      go_wp2_with (go_at_call 58; refine (isPeer_any _ _).mono ?_; rintro e w' ⟨rfl, rfl⟩; rw [HQ.out])
      go_ret
      exact ⟨by rw [HF.out]; rfl, rfl⟩
theorem isBetter_any (a b : Rt) (w : World) :
    Calls Tryz.prog 122 #[.agg #[.int .i64 a.pe, .int .i64 a.bt, .int .i64 a.ln, .int .i64 a.pa], .agg #[.int .i64 b.pe, .int .i64 b.bt, .int .i64 b.ln, .int .i64 b.pa]] w fun e w' => e = .returned (.bool (btr a b)) ∧ Below w.heap.size w w' := by
  obtain ⟨ape, abt, aln, apa⟩ := a
  obtain ⟨bpe, bbt, bln, bpa⟩ := b
  unfold btr
  by_cases h : apa = bpa
  · rw [if_pos h]
    subst h
    have q : (apa == apa) = true := by simp
    go_enter Tryz.func122, Tryz.ntmps122
    go_wp2_with fail
    go_ret
    exact ⟨rfl, ((Below.refl _ _).alloc (Nat.le_refl _) _).alloc (by simp) _⟩
  · rw [if_neg h]
    have q : (apa == bpa) = false := by simpa using h
    clear h
    go_enter Tryz.func122, Tryz.ntmps122
    go_wp2_with fail
    go_ret
    exact ⟨rfl, ((Below.refl _ _).alloc (Nat.le_refl _) _).alloc (by simp) _⟩
theorem isWithin_any (b1 l1 b2 l2 : Int) (w : World) (h1 : prefOK b1 l1 = true) (h2 : prefOK b2 l2 = true) :
    Calls Tryz.prog 107 #[.agg #[.int .i64 b1, .int .i64 l1], .agg #[.int .i64 b2, .int .i64 l2]] w fun e w' => e = .returned (.bool (decide (l2 < l1) && cov b2 l2 b1 l1)) ∧ Below w.heap.size w w' := by
  by_cases h : l2 < l1
  · rw [decide_eq_true h, Bool.true_and]
    have q : decide (l2 < l1) = true := by simpa using h
    go_enter Tryz.func107, Tryz.ntmps107
    go_wp2_with (go_at_call 121; refine (pcovers_any _ _ _ _ _ h2 h1).mono ?_; rintro e w1 ⟨rfl, hb1⟩)
    go_ret
    exact ⟨rfl, (((Below.refl _ _).alloc (Nat.le_refl _) _).alloc (by simp) _).trans (hb1.mono (by simp; omega))⟩
  · rw [decide_eq_false h, Bool.false_and]
    have q : decide (l2 < l1) = false := by simpa using h
    go_enter Tryz.func107, Tryz.ntmps107
    go_wp2_with fail
    go_ret
    exact ⟨rfl, ((Below.refl _ _).alloc (Nat.le_refl _) _).alloc (by simp) _⟩
def RtVar (w : World) (B : Nat) (r : Rt) : Prop := w.heap[B]? = some (.cells #[.int .i64 r.pe, .int .i64 r.bt, .int .i64 r.ln, .int .i64 r.pa] 100 (0, 0))
def PfVar (w : World) (B : Nat) (bt ln : Int) : Prop := w.heap[B]? = some (.cells #[.int .i64 bt, .int .i64 ln] 39 (0, 0))
theorem RtVar.set {w : World} {B : Nat} {r : Rt} (h : RtVar w B r) (q : Rt) : RtVar (w.setCells B 0 (rtC q)) B q := by
  have e1 := heap_setCell_same w B 0 _ _ (.int .i64 q.pe) h
  have e2 := heap_setCell_same _ B 1 _ _ (.int .i64 q.bt) e1
  have e3 := heap_setCell_same _ B 2 _ _ (.int .i64 q.ln) e2
  have e4 := heap_setCell_same _ B 3 _ _ (.int .i64 q.pa) e3
  exact e4
theorem PfVar.set {w : World} {B : Nat} {bt ln : Int} (h : PfVar w B bt ln) (bt' ln' : Int) : PfVar (w.setCells B 0 [.int .i64 bt', .int .i64 ln']) B bt' ln' := by
  have e1 := heap_setCell_same w B 0 _ _ (.int .i64 bt') h
  have e2 := heap_setCell_same _ B 1 _ _ (.int .i64 ln') e1
  exact e2
theorem RtVar.get {w : World} {B : Nat} {r : Rt} (h : RtVar w B r) : w.cell? ⟨B, 0, none⟩ = some (.int .i64 r.pe) ∧ w.cell? ⟨B, 1, none⟩ = some (.int .i64 r.bt) ∧ w.cell? ⟨B, 2, none⟩ = some (.int .i64 r.ln) ∧ w.cell? ⟨B, 3, none⟩ = some (.int .i64 r.pa) ∧ w.frozen? ⟨B, 0, none⟩ = false ∧ w.frozen? ⟨B, 1, none⟩ = false ∧ w.frozen? ⟨B, 2, none⟩ = false ∧ w.frozen? ⟨B, 3, none⟩ = false :=
  ⟨cell_of_row _ _ 0 _ _ _ h, cell_of_row _ _ 1 _ _ _ h, cell_of_row _ _ 2 _ _ _ h, cell_of_row _ _ 3 _ _ _ h, frozen_of_row _ _ _ _ _ h, frozen_of_row _ _ _ _ _ h, frozen_of_row _ _ _ _ _ h, frozen_of_row _ _ _ _ _ h⟩
theorem PfVar.get {w : World} {B : Nat} {bt ln : Int} (h : PfVar w B bt ln) : w.cell? ⟨B, 0, none⟩ = some (.int .i64 bt) ∧ w.cell? ⟨B, 1, none⟩ = some (.int .i64 ln) ∧ w.frozen? ⟨B, 0, none⟩ = false ∧ w.frozen? ⟨B, 1, none⟩ = false :=
  ⟨cell_of_row _ _ 0 _ _ _ h, cell_of_row _ _ 1 _ _ _ h, frozen_of_row _ _ _ _ _ h, frozen_of_row _ _ _ _ _ h⟩
theorem PfVar.below {w w' : World} {B : Nat} {bt ln : Int} (h : PfVar w B bt ln) (hb : Below w.heap.size w w') : PfVar w' B bt ln := (hb.block B (lt_of_block h)).trans h
theorem RtVar.below {w w' : World} {B : Nat} {r : Rt} (h : RtVar w B r) (hb : Below w.heap.size w w') : RtVar w' B r := (hb.block B (lt_of_block h)).trans h
theorem below_setCells {g : Nat} : ∀ (vs : List Value) (o : Nat) {B : Nat} {w w' : World}, Below B w w' → B ≤ g → Below B w (w'.setCells g o vs) := by
  intro vs
  induction vs with
  | nil => intro o B w w' h _; exact h
  | cons v r ih => intro o B w w' h hg; exact ih (o + 1) (h.setCell (p := ⟨g, o, none⟩) hg v) hg
theorem heap_setCells_ne {g k : Nat} : ∀ (vs : List Value) (o : Nat) {w : World}, k ≠ g → (w.setCells g o vs).heap[k]? = w.heap[k]? := by
  intro vs
  induction vs with
  | nil => intro o w _; rfl
  | cons v r ih => intro o w hk; exact (ih (o + 1) hk).trans (Below.heap_setCell _ _ _ _ hk)
set_option maxHeartbeats 1600000 in
theorem networkTo_any (g : Nat) (c : Cf) (ao : Option Addr) (cap : Nat) (l : List Rt) (bt ln : Int) (w : World) (hg : GRead w g c ao cap l) :
    Calls Tryz.prog 106 #[.pointer (some ⟨g, 0, none⟩), .agg #[.int .i64 bt, .int .i64 ln]] w fun e w' => e = .returned (.int .i64 (netO c (best l bt ln))) ∧ Below w.heap.size w w' := by
  have HG : Hid (GRead w g c ao cap l) := hg
  have h24 := hg.r24
  have hgz := hg.lt
  have c6 := hg.rv
  clear hg
  obtain ⟨R, hR⟩ : ∃ R, R = netO c (best l bt ln) := ⟨_, rfl⟩
  have HR : Hid (R = netO c (nwF bt ln ⟨4, 0, 0, 255⟩ l).pe) := by show _ = _; rw [hR, nwF_best HG.out.ok]
  rw [← hR]; clear hR
  have k6 := (((Below.refl w.heap.size w).alloc (Nat.le_refl _) (.cells #[.int .i64 bt, .int .i64 ln] 39)).alloc (by simp) (.cells #[.int .i64 4, .int .i64 0, .int .i64 0, .int .i64 255] 100)).cell (p := ⟨g, 6, none⟩) hgz |>.trans c6
  go_enter Tryz.func106, Tryz.ntmps106
  go_wp2_with fail
  go_loopw [14] (fun x wr => ∃ (i : Nat) (b : Rt), x = .int .i64 i ∧ i ≤ l.length ∧ Hid (R = netO c (nwF bt ln b (l.drop i)).pe) ∧ Hid (RtVar wr (w.heap.size + 1) b) ∧ Hid (PfVar wr w.heap.size bt ln) ∧ Below w.heap.size w wr) (fun x _ => l.length - (intOf x).toNat)
  case atStart => exact ⟨0, ⟨4, 0, 0, 255⟩, rfl, Nat.zero_le _, by show _ = _; rw [HR.out]; simp, heap_new_at (w.alloc _) _ _ (by simp), (heap_alloc_old (w.alloc _) _ (by simp)).trans (heap_alloc_new w _), ((Below.refl w.heap.size w).alloc (Nat.le_refl _) _).alloc (by simp) _⟩
  case round =>
    clear k6
    obtain ⟨i, b, rfl, hil, H, HB, HP, hbel⟩ := hrel
    obtain ⟨bpe, bbt, bln, bpa⟩ := b
    obtain ⟨b0, b1, b2, b3, f0, f1, f2, f3⟩ := HB.out.get
    obtain ⟨p0, p1, _⟩ := HP.out.get
    simp only [] at b0 b1 b2 b3
    have hz := hbel.size
    have hBz := lt_of_block HB.out
    have hPz := lt_of_block HP.out
    have hgr := HG.out.below hbel
    by_cases hlt : i < l.length
    · obtain ⟨rk, ro, rfl, bz2, c0, c1, c2, c3⟩ := hgr.rin i hlt
      have hd : l.drop i = l[i] :: l.drop (i + 1) := List.drop_eq_getElem_cons hlt
      have HN : Hid (R = netO c (nwF bt ln (nwStep bt ln ⟨bpe, bbt, bln, bpa⟩ l[i]) (l.drop (i + 1))).pe) := by show _ = _; rw [H.out, hd]; rfl
      clear H hd hgr
      generalize l[i] = r at *
      obtain ⟨rpe, rbt, rln, rpa⟩ := r
      simp only [] at c0 c1 c2 c3
      obtain ⟨wA, hwA⟩ : ∃ wA, wA = wr.alloc (.cells #[.int .i64 rpe, .int .i64 rbt, .int .i64 rln, .int .i64 rpa] 100) := ⟨_, rfl⟩
      have hbA : Below wr.heap.size wr wA := by rw [hwA]; exact below_alloc _ _
      have HRV : Hid (RtVar wA wr.heap.size ⟨rpe, rbt, rln, rpa⟩) := by show _ = _; rw [hwA]; exact heap_alloc_new wr _
      by_cases e2 : rbt = bt ∧ rln = ln
      · obtain ⟨rfl, rfl⟩ := e2
        have HB1 := HB.out.below hbA
        have HP1 := HP.out.below hbA
        obtain ⟨d0, d1, d2, d3, _⟩ := HRV.out.get
        obtain ⟨b0', b1', b2', b3', _⟩ := HB1.get
        simp only [] at d0 d1 d2 d3 b0' b1' b2' b3'
        have HWA : Hid (wA = wr.alloc (.cells #[.int .i64 rpe, .int .i64 rbt, .int .i64 rln, .int .i64 rpa] 100)) := hwA
        have HB1' : Hid (RtVar wA (w.heap.size + 1) ⟨bpe, bbt, bln, bpa⟩) := HB1
        have HP1' : Hid (PfVar wA w.heap.size rbt rln) := HP1
        have hbw : Below w.heap.size w wA := hbel.trans (hbA.mono hz)
        have hzA := hbA.size
        clear HB1 HP1 hwA
        cases hbt : btr ⟨rpe, rbt, rln, rpa⟩ ⟨bpe, bbt, bln, bpa⟩
        · have HN2 : Hid (R = netO c (nwF rbt rln ⟨bpe, bbt, bln, bpa⟩ (l.drop (i + 1))).pe) := by
            show _ = _
            rw [HN.out]
            simp [nwStep, hbt]
          have HQ : Hid (btr ⟨rpe, rbt, rln, rpa⟩ ⟨bpe, bbt, bln, bpa⟩ = false) := hbt
          clear HN hbt
          go_wp2_with (go_at_call 122; refine (isBetter_any ⟨rpe, rbt, rln, rpa⟩ ⟨bpe, bbt, bln, bpa⟩ _).mono ?_; rintro e w2 ⟨rfl, hb2⟩; rw [HQ.out])
          go_roundw
          case rel =>
            rw [← HWA.out] at hb2
            exact ⟨i + 1, ⟨bpe, bbt, bln, bpa⟩, by go_num, by omega, HN2, HB1'.out.below hb2, HP1'.out.below hb2, hbw.trans (hb2.mono (by omega))⟩
          case measure => simp [intOf]; omega
        · have HN2 : Hid (R = netO c (nwF rbt rln ⟨rpe, rbt, rln, rpa⟩ (l.drop (i + 1))).pe) := by
            show _ = _
            rw [HN.out]
            simp [nwStep, hbt]
          have HQ : Hid (btr ⟨rpe, rbt, rln, rpa⟩ ⟨bpe, bbt, bln, bpa⟩ = true) := hbt
          clear HN hbt
          go_wp2_with (go_at_call 122; refine (isBetter_any ⟨rpe, rbt, rln, rpa⟩ ⟨bpe, bbt, bln, bpa⟩ _).mono ?_; rintro e w2 ⟨rfl, hb2⟩; rw [HQ.out]; rw [← HWA.out] at hb2; have HB2 := HB1'.out.below hb2; have HR2 := HRV.out.below hb2; obtain ⟨x0, x1, x2, x3, _⟩ := HR2.get; obtain ⟨y0, y1, y2, y3, y4, y5, y6, y7⟩ := HB2.get; simp only [] at x0 x1 x2 x3 y0 y1 y2 y3; have hbw2 : Below w.heap.size w w2 := hbw.trans (hb2.mono (by omega)); have HB3 : Hid (RtVar (w2.setCells (w.heap.size + 1) 0 (rtC ⟨rpe, rbt, rln, rpa⟩)) (w.heap.size + 1) ⟨rpe, rbt, rln, rpa⟩) := HB2.set ⟨rpe, rbt, rln, rpa⟩; have HP3 : Hid (PfVar (w2.setCells (w.heap.size + 1) 0 (rtC ⟨rpe, rbt, rln, rpa⟩)) w.heap.size rbt rln) := (heap_setCells_ne _ 0 (by omega)).trans (HP1'.out.below hb2); have HO3 : Hid (Below w.heap.size w (w2.setCells (w.heap.size + 1) 0 (rtC ⟨rpe, rbt, rln, rpa⟩))) := below_setCells _ 0 hbw2 (by omega); clear hbw2 HB2 HR2)
          go_roundw
          case rel => exact ⟨i + 1, ⟨rpe, rbt, rln, rpa⟩, by go_num, by omega, HN2, HB3, HP3, HO3.out⟩
          case measure => simp [intOf]; omega
      · have q : (rbt == bt) = false ∨ (rln == ln) = false := by
          by_cases x : rbt = bt
          · right; simp; exact fun y => e2 ⟨x, y⟩
          · left; simpa using x
        have HN2 : Hid (R = netO c (nwF bt ln ⟨bpe, bbt, bln, bpa⟩ (l.drop (i + 1))).pe) := by
          show _ = _
          rw [HN.out]
          have : nwStep bt ln ⟨bpe, bbt, bln, bpa⟩ ⟨rpe, rbt, rln, rpa⟩ = ⟨bpe, bbt, bln, bpa⟩ := by
            unfold nwStep
            rw [if_neg]
            simp only [Bool.and_eq_true, decide_eq_true_eq]
            exact fun h => e2 h.1
          rw [this]
        have HB1 := HB.out.below (below_alloc wr (.cells #[.int .i64 rpe, .int .i64 rbt, .int .i64 rln, .int .i64 rpa] 100))
        have HP1 := HP.out.below (below_alloc wr (.cells #[.int .i64 rpe, .int .i64 rbt, .int .i64 rln, .int .i64 rpa] 100))
        clear HN e2 hwA HRV hbA
        rcases q with q | q
        all_goals
          go_wp2_with fail
          go_roundw
          case rel => exact ⟨i + 1, ⟨bpe, bbt, bln, bpa⟩, by go_num, by omega, HN2, HB1, HP1, hbel.alloc hz _⟩
          case measure => simp [intOf]; omega
    · have HF : Hid (R = netO c bpe) := by
        show _ = _
        rw [H.out, List.drop_of_length_le (by omega)]
        rfl
      have hnet := hgr.net
      clear H hgr
      go_wp2_with (go_at_call 104; refine (networkOf_any g c bpe _ hnet).mono ?_; rintro e w1 ⟨rfl, rfl⟩)
      go_ret
      exact ⟨by rw [HF.out]; rfl, hbel⟩
set_option maxHeartbeats 1600000 in
theorem longestCover_any (ao : Option Addr) (cap : Nat) (l : List Rt) (bt ln : Int) (w : World) (hin : RtIn w ao l) (h24 : l.length ≤ 24) (hok : RtOK l) (hp : prefOK bt ln = true) :
    Calls Tryz.prog 105 #[.slice ao l.length cap, .agg #[.int .i64 bt, .int .i64 ln]] w fun e w' => e = .returned (.tuple #[.agg #[.int .i64 (lcF bt ln ⟨false, 0, 0⟩ l).bt, .int .i64 (lcF bt ln ⟨false, 0, 0⟩ l).ln], .bool (lcF bt ln ⟨false, 0, 0⟩ l).fd]) ∧ Below w.heap.size w w' := by
  have HI : Hid (RtIn w ao l) := hin
  have HO : Hid (RtOK l) := hok
  have HP0 : Hid (prefOK bt ln = true) := hp
  clear hin hok hp
  obtain ⟨R, hR⟩ : ∃ R, R = lcF bt ln ⟨false, 0, 0⟩ l := ⟨_, rfl⟩
  have HR : Hid (R = lcF bt ln ⟨false, 0, 0⟩ l) := hR
  rw [← hR]; clear hR
  go_enter Tryz.func105, Tryz.ntmps105
  go_wp2_with fail
  go_loopw [7, 13] (fun f x wr => ∃ (i : Nat) (s : Lc), x = .int .i64 i ∧ f = .bool s.fd ∧ i ≤ l.length ∧ Hid (R = lcF bt ln s (l.drop i)) ∧ Hid (PfVar wr (w.heap.size + 1 + 1) s.bt s.ln) ∧ Hid (PfVar wr (w.heap.size + 1) 0 0) ∧ Hid (PfVar wr w.heap.size bt ln) ∧ Below w.heap.size w wr) (fun _ x _ => l.length - (intOf x).toNat)
  case atStart => exact ⟨0, ⟨false, 0, 0⟩, rfl, rfl, Nat.zero_le _, by show _ = _; rw [HR.out]; simp, heap_new_at ((w.alloc _).alloc _) _ _ (by simp), (heap_alloc_old ((w.alloc _).alloc _) _ (by simp)).trans (heap_new_at (w.alloc _) _ _ (by simp)), (heap_alloc_old ((w.alloc _).alloc _) _ (by simp; omega)).trans ((heap_alloc_old (w.alloc _) _ (by simp)).trans (heap_alloc_new w _)), (((Below.refl w.heap.size w).alloc (Nat.le_refl _) _).alloc (by simp) _).alloc (by simp; omega) _⟩
  case round =>
    obtain ⟨i, s, rfl, rfl, hil, H, HB, HC, HP, hbel⟩ := hrel
    obtain ⟨sfd, sbt, sln⟩ := s
    simp only [] at HB
    obtain ⟨b0, b1, f0, f1⟩ := HB.out.get
    obtain ⟨p0, p1, _⟩ := HP.out.get
    have hz := hbel.size
    have hBz := lt_of_block HB.out
    have hPz := lt_of_block HP.out
    by_cases hlt : i < l.length
    · obtain ⟨rk, ro, rfl, bz2, c0, c1, c2, c3⟩ := HI.out.below hbel i hlt
      have hd : l.drop i = l[i] :: l.drop (i + 1) := List.drop_eq_getElem_cons hlt
      have HN : Hid (R = lcF bt ln (lcStep bt ln ⟨sfd, sbt, sln⟩ l[i]) (l.drop (i + 1))) := by show _ = _; rw [H.out, hd]; rfl
      have HRO : Hid (prefOK l[i].bt l[i].ln = true) := (HO.out l[i] (List.getElem_mem hlt)).2.1
      clear H hd
      generalize l[i] = r at *
      obtain ⟨rpe, rbt, rln, rpa⟩ := r
      simp only [] at c0 c1 c2 c3 HRO
      obtain ⟨wA, hwA⟩ : ∃ wA, wA = wr.alloc (.cells #[.int .i64 rpe, .int .i64 rbt, .int .i64 rln, .int .i64 rpa] 100) := ⟨_, rfl⟩
      have hbA : Below wr.heap.size wr wA := by rw [hwA]; exact below_alloc _ _
      have HRV : Hid (RtVar wA wr.heap.size ⟨rpe, rbt, rln, rpa⟩) := by show _ = _; rw [hwA]; exact heap_alloc_new wr _
      have HWA : Hid (wA = wr.alloc (.cells #[.int .i64 rpe, .int .i64 rbt, .int .i64 rln, .int .i64 rpa] 100)) := hwA
      have HB1' : Hid (PfVar wA (w.heap.size + 1 + 1) sbt sln) := HB.out.below hbA
      have HC1' : Hid (PfVar wA (w.heap.size + 1) 0 0) := HC.out.below hbA
      have HP1' : Hid (PfVar wA w.heap.size bt ln) := HP.out.below hbA
      have hbw : Below w.heap.size w wA := hbel.trans (hbA.mono hz)
      have hzA := hbA.size
      clear hwA
      cases hcv : cov rbt rln bt ln
      · have HN2 : Hid (R = lcF bt ln ⟨sfd, sbt, sln⟩ (l.drop (i + 1))) := by
          show _ = _
          rw [HN.out]
          simp [lcStep, hcv]
        have HQ : Hid (cov rbt rln bt ln = false) := hcv
        clear HN hcv
        go_wp2_with (go_at_call 121; refine (pcovers_any _ _ _ _ _ HRO.out HP0.out).mono ?_; rintro e w2 ⟨rfl, hb2⟩; rw [HQ.out]; rw [← HWA.out] at hb2)
        go_roundw
        case rel => exact ⟨i + 1, ⟨sfd, sbt, sln⟩, by go_num, rfl, by omega, HN2, HB1'.out.below hb2, HC1'.out.below hb2, HP1'.out.below hb2, hbw.trans (hb2.mono (by omega))⟩
        case measure => simp [intOf]; omega
      · have HQ : Hid (cov rbt rln bt ln = true) := hcv
        by_cases hcase : sfd = true ∧ ¬ sln < rln
        · obtain ⟨rfl, hnl⟩ := hcase
          have HN2 : Hid (R = lcF bt ln ⟨true, sbt, sln⟩ (l.drop (i + 1))) := by
            show _ = _
            rw [HN.out]
            simp [lcStep, hnl]
          have q : decide (sln < rln) = false := by simpa using hnl
          clear HN hcv hnl
          go_wp2_with (go_at_call 121; refine (pcovers_any _ _ _ _ _ HRO.out HP0.out).mono ?_; rintro e w2 ⟨rfl, hb2⟩; rw [HQ.out]; rw [← HWA.out] at hb2; have HB2 := HB1'.out.below hb2; have HR2 := HRV.out.below hb2; obtain ⟨x0, x1, x2, x3, _⟩ := HR2.get; obtain ⟨y0, y1, y4, y5⟩ := HB2.get; simp only [] at x0 x1 x2 x3)
          go_roundw
          case rel => exact ⟨i + 1, ⟨true, sbt, sln⟩, by go_num, rfl, by omega, HN2, HB1'.out.below hb2, HC1'.out.below hb2, HP1'.out.below hb2, hbw.trans (hb2.mono (by omega))⟩
          case measure => simp [intOf]; omega
        · have HN2 : Hid (R = lcF bt ln ⟨true, rbt, rln⟩ (l.drop (i + 1))) := by
            show _ = _
            rw [HN.out]
            have : lcStep bt ln ⟨sfd, sbt, sln⟩ ⟨rpe, rbt, rln, rpa⟩ = ⟨true, rbt, rln⟩ := by
              unfold lcStep
              rw [if_pos]
              simp only [hcv, Bool.true_and]
              cases sfd
              · rfl
              · have : sln < rln := by
                  apply Classical.byContradiction
                  intro hh
                  exact hcase ⟨rfl, hh⟩
                simpa using this
            rw [this]
          have hsplit : sfd = false ∨ (sfd = true ∧ sln < rln) := by
            cases sfd
            · exact .inl rfl
            · right
              refine ⟨rfl, ?_⟩
              apply Classical.byContradiction
              intro hh
              exact hcase ⟨rfl, hh⟩
          clear HN hcv hcase
          rcases hsplit with rfl | ⟨rfl, hl2⟩
          · go_wp2_with (go_at_call 121; refine (pcovers_any _ _ _ _ _ HRO.out HP0.out).mono ?_; rintro e w2 ⟨rfl, hb2⟩; rw [HQ.out]; rw [← HWA.out] at hb2; have HB2 := HB1'.out.below hb2; have HR2 := HRV.out.below hb2; obtain ⟨x0, x1, x2, x3, _⟩ := HR2.get; obtain ⟨y0, y1, y4, y5⟩ := HB2.get; simp only [] at x0 x1 x2 x3; have hbw2 : Below w.heap.size w w2 := hbw.trans (hb2.mono (by omega)); have HB3 : Hid (PfVar (w2.setCells (w.heap.size + 1 + 1) 0 [.int .i64 rbt, .int .i64 rln]) (w.heap.size + 1 + 1) rbt rln) := HB2.set rbt rln; have HC3 : Hid (PfVar (w2.setCells (w.heap.size + 1 + 1) 0 [.int .i64 rbt, .int .i64 rln]) (w.heap.size + 1) 0 0) := (heap_setCells_ne _ 0 (by omega)).trans (HC1'.out.below hb2); have HP3 : Hid (PfVar (w2.setCells (w.heap.size + 1 + 1) 0 [.int .i64 rbt, .int .i64 rln]) w.heap.size bt ln) := (heap_setCells_ne _ 0 (by omega)).trans (HP1'.out.below hb2); have HO3 : Hid (Below w.heap.size w (w2.setCells (w.heap.size + 1 + 1) 0 [.int .i64 rbt, .int .i64 rln])) := below_setCells _ 0 hbw2 (by omega); clear hbw2 HB2 HR2)
            go_roundw
            case rel => exact ⟨i + 1, ⟨true, rbt, rln⟩, by go_num, rfl, by omega, HN2, HB3, HC3, HP3, HO3.out⟩
            case measure => simp [intOf]; omega
          · have q : decide (sln < rln) = true := by simpa using hl2
            clear hl2
            go_wp2_with (go_at_call 121; refine (pcovers_any _ _ _ _ _ HRO.out HP0.out).mono ?_; rintro e w2 ⟨rfl, hb2⟩; rw [HQ.out]; rw [← HWA.out] at hb2; have HB2 := HB1'.out.below hb2; have HR2 := HRV.out.below hb2; obtain ⟨x0, x1, x2, x3, _⟩ := HR2.get; obtain ⟨y0, y1, y4, y5⟩ := HB2.get; simp only [] at x0 x1 x2 x3; have hbw2 : Below w.heap.size w w2 := hbw.trans (hb2.mono (by omega)); have HB3 : Hid (PfVar (w2.setCells (w.heap.size + 1 + 1) 0 [.int .i64 rbt, .int .i64 rln]) (w.heap.size + 1 + 1) rbt rln) := HB2.set rbt rln; have HC3 : Hid (PfVar (w2.setCells (w.heap.size + 1 + 1) 0 [.int .i64 rbt, .int .i64 rln]) (w.heap.size + 1) 0 0) := (heap_setCells_ne _ 0 (by omega)).trans (HC1'.out.below hb2); have HP3 : Hid (PfVar (w2.setCells (w.heap.size + 1 + 1) 0 [.int .i64 rbt, .int .i64 rln]) w.heap.size bt ln) := (heap_setCells_ne _ 0 (by omega)).trans (HP1'.out.below hb2); have HO3 : Hid (Below w.heap.size w (w2.setCells (w.heap.size + 1 + 1) 0 [.int .i64 rbt, .int .i64 rln])) := below_setCells _ 0 hbw2 (by omega); clear hbw2 HB2 HR2)
            go_roundw
            case rel => exact ⟨i + 1, ⟨true, rbt, rln⟩, by go_num, rfl, by omega, HN2, HB3, HC3, HP3, HO3.out⟩
            case measure => simp [intOf]; omega
    · have HF : Hid (R = ⟨sfd, sbt, sln⟩) := by
        show _ = _
        rw [H.out, List.drop_of_length_le (by omega)]
        rfl
      obtain ⟨r0, r1, g0, g1⟩ := HC.out.get
      clear H
      go_wp2_with fail
      rw [HF.out]
      exact bodyPost_ret (v := .tuple #[.agg #[.int .i64 sbt, .int .i64 sln], .bool sfd]) (by simp [results, Tryz.results105, go_sem, *]) rfl ⟨rfl, below_setCells [.int .i64 sbt, .int .i64 sln] 0 hbel (by omega)⟩
end Go.Proofs.YtgkiknfpcbcnnaaGreat
namespace Go.Proofs.YtgkiknfpcbcnnaaGreat
open Go.RowKit
set_option maxRecDepth 20000
theorem ownsRow_store {w : World} {B : Nat} {e : TypeId} {size n g cap : Nat} {xs : List Value} (h : w.ownsRow B e size (.slice (some ⟨g, 0, none⟩) n cap) n xs) (j : Nat) (u : Value) : (w.setCell ⟨g, j, none⟩ u).ownsRow B e size (.slice (some ⟨g, 0, none⟩) n cap) n (xs.set j u) := by
  refine ⟨by rw [List.length_set]; exact h.1, ?_⟩
  rcases h.2 with ⟨hv, _⟩ | ⟨g', c', cur, hv, hg, hh, h1, h2, h3, h4⟩
  · simp at hv
  · simp only [Value.slice.injEq, Option.some.injEq, Addr.mk.injEq, and_true, true_and] at hv
    obtain ⟨rfl, rfl⟩ := hv
    refine .inr ⟨g, cap, _, rfl, hg, heap_setCell_same w g j cur e u hh, h1, h2, by rw [Array.size_setIfInBounds]; exact h3, ?_⟩
    rw [Array.toList_setIfInBounds, List.take_set, h4]
theorem rtCs_setPa : ∀ (l : List Rt) (i : Nat) (h : i < l.length) (pa : Int), rtCs (l.set i ⟨l[i].pe, l[i].bt, l[i].ln, pa⟩) = (rtCs l).set (i * 4 + 3) (.int .i64 pa) := by
  intro l
  induction l with
  | nil => intro i h; simp at h
  | cons a l ih =>
    intro i h pa
    have e : rtCs (a :: l) = .int .i64 a.pe :: .int .i64 a.bt :: .int .i64 a.ln :: .int .i64 a.pa :: rtCs l := rfl
    cases i with
    | zero => rfl
    | succ i =>
      have e1 : (i + 1) * 4 + 3 = i * 4 + 3 + 1 + 1 + 1 + 1 := by omega
      rw [e, e1]
      simp only [List.set_cons_succ, List.getElem_cons_succ]
      rw [← ih i (by simpa using h) pa]
      rfl
theorem clCs_setAc : ∀ (l : List Rl) (i : Nat) (h : i < l.length) (ac : Int), clCs (l.set i ⟨l[i].tx, l[i].pe, ac⟩) = (clCs l).set (i * 3 + 2) (.int .i64 ac) := by
  intro l
  induction l with
  | nil => intro i h; simp at h
  | cons a l ih =>
    intro i h ac
    have e : clCs (a :: l) = .int .i64 a.pe :: .string a.tx :: .int .i64 a.ac :: clCs l := rfl
    cases i with
    | zero => rfl
    | succ i =>
      have e1 : (i + 1) * 3 + 2 = i * 3 + 2 + 1 + 1 + 1 := by omega
      rw [e, e1]
      simp only [List.set_cons_succ, List.getElem_cons_succ]
      rw [← ih i (by simpa using h) ac]
      rfl
theorem ttCs_setSt : ∀ (O : List (Rl × Int)) (r : Rl) (s s' : Int) (J : List (Rl × Int)), ttCs (O ++ (r, s') :: J) = (ttCs (O ++ (r, s) :: J)).set (O.length * 4 + 3) (.int .i64 s') := by
  intro O
  induction O with
  | nil => intro r s s' J; rfl
  | cons a O ih =>
    intro r s s' J
    have e1 : (a :: O).length * 4 + 3 = O.length * 4 + 3 + 1 + 1 + 1 + 1 := by simp only [List.length_cons]; omega
    have e : ∀ M : List (Rl × Int), ttCs (a :: M) = .string a.1.tx :: .int .i64 a.1.pe :: .int .i64 a.1.ac :: .int .i64 a.2 :: ttCs M := fun _ => rfl
    rw [List.cons_append, List.cons_append, e, e, e1]
    simp only [List.set_cons_succ]
    rw [← ih r s s' J]
def jd (c : Cf) (rts : List Rt) : ByteArray → List Rl → List Int
  | _, [] => []
  | last, r :: l => if holdS c rts r then (if r.tx = last then 1 else 2) :: jd c rts r.tx l else 0 :: jd c rts last l
def inF (c : Cf) : Int → List (Rl × Int) → List (Rl × Int)
  | _, [] => []
  | left, x :: l => if x.2 = 2 then (if c.bu < (nS (dS x.1.tx) : Int) ∨ left < (nS (dS x.1.tx) : Int) then x :: l else (x.1, 3) :: inF c (left - (nS (dS x.1.tx) : Int)) l) else x :: inF c left l
theorem jd_full (c : Cf) (rts : List Rt) : ∀ (l : List Rl) (a : ByteArray) (t : Int), stF c rts a t true l = jd c rts a l := by
  intro l
  induction l with
  | nil => intro a t; rfl
  | cons r l ih =>
    intro a t
    simp only [stF, jd]
    split
    · split
      · rename_i h; subst h; rw [ih]
      · simp [ih]
    · rw [ih]
theorem jd_in (c : Cf) (rts : List Rt) : ∀ (l : List Rl) (a : ByteArray) (t : Int), inF c (c.cp - t) (l.zip (jd c rts a l)) = l.zip (stF c rts a t false l) := by
  intro l
  induction l with
  | nil => intro a t; rfl
  | cons r l ih =>
    intro a t
    simp only [stF, jd]
    split
    · split
      · rename_i h
        subst h
        simp only [List.zip_cons_cons, inF]
        rw [if_neg (by decide), ih]
      · simp only [List.zip_cons_cons, inF, if_true]
        by_cases hb : c.bu < (nS (dS r.tx) : Int) ∨ c.cp < t + (nS (dS r.tx) : Int)
        · have e : (false || (decide (c.bu < (nS (dS r.tx) : Int)) || decide (c.cp < t + (nS (dS r.tx) : Int)))) = true := by
            rcases hb with hb | hb <;> simp [hb]
          rw [e, if_pos (by omega), jd_full]
          rfl
        · have e : (false || (decide (c.bu < (nS (dS r.tx) : Int)) || decide (c.cp < t + (nS (dS r.tx) : Int)))) = false := by
            simp only [Bool.false_or, Bool.or_eq_false_iff, decide_eq_false_iff_not]
            omega
          rw [e, if_neg (by omega)]
          have e2 : c.cp - t - (nS (dS r.tx) : Int) = c.cp - (t + (nS (dS r.tx) : Int)) := by omega
          rw [e2, ih]
          rfl
    · simp only [List.zip_cons_cons, inF]
      rw [if_neg (by decide), ih]
def dsB (tx : ByteArray) : Int := if (p0S tx).ty = 1 then (p0S tx).bt else 0
def dsL (tx : ByteArray) : Int := if (p0S tx).ty = 1 then (p0S tx).ln else 0
set_option maxHeartbeats 1600000 in
theorem destination_any (tx : ByteArray) (w : World) (hd : (decS tx).isSome = true) (hs : tx.size ≤ 140737488351232) :
    Calls Tryz.prog 103 #[.string tx] w fun e w' => e = .returned (.tuple #[.agg #[.int .i64 (dsB tx), .int .i64 (dsL tx)], .bool (decide ((p0S tx).ty = 1))]) ∧ Below w.heap.size w w' := by
  have hl := dS_ne hd
  obtain ⟨B, hB⟩ : ∃ B, B = dsB tx := ⟨_, rfl⟩
  obtain ⟨L, hL⟩ : ∃ L, L = dsL tx := ⟨_, rfl⟩
  obtain ⟨D, hD⟩ : ∃ D, D = decide ((p0S tx).ty = 1) := ⟨_, rfl⟩
  have HB : Hid (B = dsB tx) := hB
  have HL : Hid (L = dsL tx) := hL
  have HD : Hid (D = decide ((p0S tx).ty = 1)) := hD
  rw [← hB, ← hL, ← hD]
  clear hB hL hD
  have HE : Hid (eS tx = 0) := eS_some hd
  have g0 : (((dS tx).length : Int) == 0) = false := beq_eq_false_iff_ne.2 (by omega)
  have g1 : (0 : Int) < ((dS tx).length : Int) := by omega
  go_enter Tryz.func103, Tryz.ntmps103
  go_wp2_with fail
  refine (flow2 tx _ hs).mono ?_
  rintro e w1 ⟨hb1, ao, cap, qs, rfl, hq, hrule⟩
  rw [HE.out]
  have hpi : PartsIn w1 ao (dS tx) := hrule.reads2 hq rfl (dS_small tx).2
  have hP := P0.of hpi hl
  clear hq hrule hpi
  obtain ⟨wA, hwA⟩ : ∃ wA, wA = w1.alloc (.cells #[.slice ao (dS tx).length cap] 114) := ⟨_, rfl⟩
  have hbA : Below w1.heap.size w1 wA := by rw [hwA]; exact below_alloc _ _
  obtain ⟨pb, off, rfl, hlt, c0, c1, c2⟩ := (hP.below hbA).ex
  rw [hwA] at c0 c1 c2 hlt
  clear hP
  obtain ⟨a0, a1, az⟩ := cells_pr hb1
  have hPv : PfVar w1 w.heap.size 0 0 := (hb1.block _ (by simp)).trans (heap_alloc_new w _)
  have HPV : Hid (PfVar w1 w.heap.size 0 0) := hPv
  obtain ⟨s0, s1, s2, s3⟩ := hPv.get
  have hPA := hPv.below hbA
  rw [hwA] at hPA
  obtain ⟨r0, r1, f0, f1⟩ := hPA.get
  have hbw := below_first hb1
  have hzw := hbw.size
  clear hwA hbA hPv hPA
  by_cases hty : (p0S tx).ty = 1
  · have HB2 : Hid (B = (p0S tx).bt) := by show _ = _; rw [HB.out]; unfold dsB; rw [if_pos hty]
    have HL2 : Hid (L = (p0S tx).ln) := by show _ = _; rw [HL.out]; unfold dsL; rw [if_pos hty]
    have HD2 : Hid (D = true) := by show _ = _; rw [HD.out]; simpa using hty
    rw [hty] at c0
    clear HB HL HD hty
    generalize (p0S tx).bt = bt at *
    generalize (p0S tx).ln = ln at *
    generalize (dS tx).length = n at *
    go_wp2_with fail
    have e0 : (((w1.setCell ⟨w.heap.size, 0, none⟩ (.int .i64 bt)).setCell ⟨w.heap.size, 1, none⟩ (.int .i64 ln)).alloc (.cells #[.slice (some ⟨pb, off, none⟩) n cap] 114)).cell? ⟨w.heap.size, 0, none⟩ = some (.int .i64 bt) := ((HPV.out.set bt ln).below (below_alloc _ _)).get.1
    have e1 : (((w1.setCell ⟨w.heap.size, 0, none⟩ (.int .i64 bt)).setCell ⟨w.heap.size, 1, none⟩ (.int .i64 ln)).alloc (.cells #[.slice (some ⟨pb, off, none⟩) n cap] 114)).cell? ⟨w.heap.size, 1, none⟩ = some (.int .i64 ln) := ((HPV.out.set bt ln).below (below_alloc _ _)).get.2.1
    exact bodyPost_ret (v := .tuple #[.agg #[.int .i64 bt, .int .i64 ln], .bool true]) (by simp [results, Tryz.results103, go_sem, e0, e1]) rfl ⟨by rw [HB2.out, HL2.out, HD2.out], (below_setCells [.int .i64 bt, .int .i64 ln] 0 hbw (Nat.le_refl _)).alloc (below_setCells [.int .i64 bt, .int .i64 ln] 0 hbw (Nat.le_refl _)).size _⟩
  · have HB2 : Hid (B = 0) := by show _ = _; rw [HB.out]; unfold dsB; rw [if_neg hty]
    have HL2 : Hid (L = 0) := by show _ = _; rw [HL.out]; unfold dsL; rw [if_neg hty]
    have HD2 : Hid (D = false) := by show _ = _; rw [HD.out]; simpa using hty
    have g2 : ((p0S tx).ty != 1) = true := by simpa using hty
    clear HB HL HD hty
    generalize (p0S tx).ty = ty at *
    generalize (p0S tx).bt = bt at *
    generalize (p0S tx).ln = ln at *
    generalize (dS tx).length = n at *
    go_wp2_with fail
    have e0 : (((w1.setCell ⟨w.heap.size, 0, none⟩ (.int .i64 0)).setCell ⟨w.heap.size, 1, none⟩ (.int .i64 0)).alloc (.cells #[.slice (some ⟨pb, off, none⟩) n cap] 114)).cell? ⟨w.heap.size, 0, none⟩ = some (.int .i64 0) := ((HPV.out.set 0 0).below (below_alloc _ _)).get.1
    have e1 : (((w1.setCell ⟨w.heap.size, 0, none⟩ (.int .i64 0)).setCell ⟨w.heap.size, 1, none⟩ (.int .i64 0)).alloc (.cells #[.slice (some ⟨pb, off, none⟩) n cap] 114)).cell? ⟨w.heap.size, 1, none⟩ = some (.int .i64 0) := ((HPV.out.set 0 0).below (below_alloc _ _)).get.2.1
    exact bodyPost_ret (v := .tuple #[.agg #[.int .i64 0, .int .i64 0], .bool false]) (by simp [results, Tryz.results103, go_sem, e0, e1]) rfl ⟨by rw [HB2.out, HL2.out, HD2.out], (below_setCells [.int .i64 0, .int .i64 0] 0 hbw (Nat.le_refl _)).alloc (below_setCells [.int .i64 0, .int .i64 0] 0 hbw (Nat.le_refl _)).size _⟩
end Go.Proofs.YtgkiknfpcbcnnaaGreat
