import Derived.Test.YtgkiknfpcbcnnabGreatScc
import Derived.Test.YtgkiknfpcbcnnabGreatGc
import Derived.Deep.RegionWith
import Derived.Test.YtgkiknfpcbcnnabGreatGd
namespace Go.Proofs.YtgkiknfpcbcnnabGreat
open Go.RowKit
set_option maxRecDepth 20000

/-- A configuration out of any numbers. -/
def fitC (c : Cf) : Cf := ⟨1 + pk c.cp 128, 1 + pk c.bu 64, 1 + pk c.n0 65535, 1 + pk c.n1 65535, 1 + pk c.n2 65535, 1 + pk c.n3 65535⟩
theorem fitC_ok (c : Cf) : cfOK (fitC c) = true := by
  have a := pk_bd c.cp 128 (by omega)
  have b := pk_bd c.bu 64 (by omega)
  have d := pk_bd c.n0 65535 (by omega)
  have e := pk_bd c.n1 65535 (by omega)
  have f := pk_bd c.n2 65535 (by omega)
  have g := pk_bd c.n3 65535 (by omega)
  unfold cfOK fitC
  simp only [isN, Bool.and_eq_true, decide_eq_true_eq]
  omega
structure CfI (c : Cf) : Prop where
  cp : i64 c.cp
  bu : i64 c.bu
  n0 : i64 c.n0
  n1 : i64 c.n1
  n2 : i64 c.n2
  n3 : i64 c.n3
/-- The first i of the four numbers of networks, the others 0. -/
def netsT (c : Cf) (i : Nat) : Value × Value × Value × Value :=
  (.int .i64 (if 0 < i then 1 + pk c.n0 65535 else 0), .int .i64 (if 1 < i then 1 + pk c.n1 65535 else 0), .int .i64 (if 2 < i then 1 + pk c.n2 65535 else 0), .int .i64 (if 3 < i then 1 + pk c.n3 65535 else 0))
def CfVar (w : World) (D : Nat) (c : Cf) (i : Nat) : Prop := w.heap[D]? = some (.cells #[.int .i64 (1 + pk c.cp 128), .int .i64 (1 + pk c.bu 64), (netsT c i).1, (netsT c i).2.1, (netsT c i).2.2.1, (netsT c i).2.2.2] 24 (0, 0))
theorem wrap1 {x : Int} (h0 : 0 ≤ x) (h1 : x ≤ 65535) : IntKind.i64.wrap (1 + x) = 1 + x := by
  simp [IntKind.wrap, IntKind.signed, IntKind.bits]
  omega

set_option maxHeartbeats 1600000 in
theorem fit_any (c : Cf) (w : World) (h : CfI c) :
    Calls Tryz.prog 42 #[cfV c] w fun e w' => e = .returned (cfV (fitC c)) ∧ Below w.heap.size w w' := by
  have HP : Hid (∀ v n w, (v = c.cp ∧ n = 128) ∨ (v = c.bu ∧ n = 64) ∨ ((v = c.n0 ∨ v = c.n1 ∨ v = c.n2 ∨ v = c.n3) ∧ n = 65535) → Calls Tryz.prog 32 #[.int .i64 v, .int .i64 n] w fun e w' => e = .returned (.int .i64 (pk v n)) ∧ w = w') := by
    intro v n w hv
    rcases hv with ⟨rfl, rfl⟩ | ⟨rfl, rfl⟩ | ⟨rfl | rfl | rfl | rfl, rfl⟩
    · exact pick_any _ _ w h.cp.1 h.cp.2 (by omega) (by omega)
    · exact pick_any _ _ w h.bu.1 h.bu.2 (by omega) (by omega)
    · exact pick_any _ _ w h.n0.1 h.n0.2 (by omega) (by omega)
    · exact pick_any _ _ w h.n1.1 h.n1.2 (by omega) (by omega)
    · exact pick_any _ _ w h.n2.1 h.n2.2 (by omega) (by omega)
    · exact pick_any _ _ w h.n3.1 h.n3.2 (by omega) (by omega)
  clear h
  obtain ⟨bc0, bc1⟩ := pk_bd c.cp 128 (by omega)
  obtain ⟨bb0, bb1⟩ := pk_bd c.bu 64 (by omega)
  obtain ⟨d00, d01⟩ := pk_bd c.n0 65535 (by omega)
  obtain ⟨d10, d11⟩ := pk_bd c.n1 65535 (by omega)
  obtain ⟨d20, d21⟩ := pk_bd c.n2 65535 (by omega)
  obtain ⟨d30, d31⟩ := pk_bd c.n3 65535 (by omega)
  have HWC : Hid (IntKind.i64.wrap (1 + pk c.cp 128) = 1 + pk c.cp 128) := wrap1 bc0 (by omega)
  have HWB : Hid (IntKind.i64.wrap (1 + pk c.bu 64) = 1 + pk c.bu 64) := wrap1 bb0 (by omega)
  unfold cfV
  obtain ⟨w2, hw2⟩ : ∃ w2, w2 = (w.alloc (.cells #[.int .i64 c.cp, .int .i64 c.bu, .int .i64 c.n0, .int .i64 c.n1, .int .i64 c.n2, .int .i64 c.n3] 24)).alloc (.cells #[.int .i64 0, .int .i64 0, .int .i64 0, .int .i64 0, .int .i64 0, .int .i64 0] 24) := ⟨_, rfl⟩
  have HW2 : Hid (w2 = (w.alloc (.cells #[.int .i64 c.cp, .int .i64 c.bu, .int .i64 c.n0, .int .i64 c.n1, .int .i64 c.n2, .int .i64 c.n3] 24)).alloc (.cells #[.int .i64 0, .int .i64 0, .int .i64 0, .int .i64 0, .int .i64 0, .int .i64 0] 24)) := hw2
  have hb2 : Below w.heap.size w w2 := by rw [hw2]; exact ((Below.refl w.heap.size w).alloc (Nat.le_refl _) _).alloc (by simp) _
  have hc2 : w2.heap[w.heap.size]? = some (.cells #[.int .i64 c.cp, .int .i64 c.bu, .int .i64 c.n0, .int .i64 c.n1, .int .i64 c.n2, .int .i64 c.n3] 24 (0, 0)) := by rw [hw2]; exact (heap_alloc_old (w.alloc _) _ (by simp)).trans (heap_alloc_new w _)
  have hr2 : w2.heap[w.heap.size + 1]? = some (.cells #[.int .i64 0, .int .i64 0, .int .i64 0, .int .i64 0, .int .i64 0, .int .i64 0] 24 (0, 0)) := by rw [hw2]; exact heap_new_at (w.alloc _) _ _ (by simp)
  have hz2 : w2.heap.size = w.heap.size + 1 + 1 := by rw [hw2]; simp
  clear hw2
  have a0 := cell_of_row w2 w.heap.size 0 _ _ _ hc2
  have a1 := cell_of_row w2 w.heap.size 1 _ _ _ hc2
  go_enter Tryz.func42, Tryz.ntmps42
  go_upto_region 1 with fail
  rw [← HW2.out]
  go_cut [3] from 5 (fun s3 wc => s3 = .pointer (some ⟨w.heap.size + 1 + 1, 0, none⟩) ∧ wc.heap[w.heap.size + 1 + 1]? = some (.cells #[.int .i64 (1 + pk c.cp 128), .int .i64 (1 + pk c.bu 64), .int .i64 0, .int .i64 0, .int .i64 0, .int .i64 0] 24 (0, 0)) ∧ Below w2.heap.size w2 wc)
  case first =>
    go_region_with (first
      | (go_at_call 32; refine (HP.out _ _ _ (by first | exact Or.inl ⟨rfl, rfl⟩ | exact Or.inr (Or.inl ⟨rfl, rfl⟩))).mono ?_; rintro e w' ⟨rfl, rfl⟩))
    all_goals
      go_wp2_with fail
      go_meet
      rw [HWC.out, HWB.out]
      exact ⟨rfl, heap_new_at w2 _ _ (by omega), ((Below.refl w2.heap.size w2).alloc (Nat.le_refl _) _).drew⟩
  case rest =>
    obtain ⟨rfl, hD, hbc⟩ := hcut
    have HD : Hid (CfVar wc (w.heap.size + 1 + 1) c 0) := hD
    clear hD a0 a1
    go_wp2_with fail
    go_loopw [4] (fun x wr => ∃ i : Nat, x = .int .i64 i ∧ i ≤ 4 ∧ Hid (CfVar wr (w.heap.size + 1 + 1) c i) ∧ Below w2.heap.size w2 wr) (fun x _ => 4 - (intOf x).toNat)
    case atStart => exact ⟨0, rfl, by omega, HD, hbc⟩
    case round =>
      obtain ⟨i, rfl, hi, HV, hb⟩ := hrel
      have hcr := (hb.block w.heap.size (by omega)).trans hc2
      obtain rfl | rfl | rfl | rfl | rfl : i = 0 ∨ i = 1 ∨ i = 2 ∨ i = 3 ∨ i = 4 := by omega
      · have c0 := cell_of_row wr w.heap.size 2 _ _ _ hcr
        have f0 := frozen_of_row wr (w.heap.size + 1 + 1) 2 _ _ HV.out
        have g0 := cell_of_row wr (w.heap.size + 1 + 1) 2 _ _ _ HV.out
        simp only [netsT] at g0
        clear hcr
        go_wp2_with fail
        refine (HP.out _ _ _ (Or.inr (Or.inr ⟨Or.inl rfl, rfl⟩))).mono ?_
        rintro e w' ⟨rfl, rfl⟩
        go_wp2_with fail
        go_roundw
        case measure => decide
        case rel =>
          refine ⟨1, by go_num, by omega, ?_, hb.setCell (by rw [hz2]; exact Nat.le_refl _) _⟩
          have q := heap_setCell_same wr (w.heap.size + 1 + 1) 2 _ _ (.int .i64 (1 + pk c.n0 65535)) HV.out
          exact q
      · have c0 := cell_of_row wr w.heap.size 3 _ _ _ hcr
        have f0 := frozen_of_row wr (w.heap.size + 1 + 1) 3 _ _ HV.out
        have g0 := cell_of_row wr (w.heap.size + 1 + 1) 3 _ _ _ HV.out
        simp only [netsT] at g0
        clear hcr
        go_wp2_with fail
        refine (HP.out _ _ _ (Or.inr (Or.inr ⟨Or.inr (Or.inl rfl), rfl⟩))).mono ?_
        rintro e w' ⟨rfl, rfl⟩
        go_wp2_with fail
        go_roundw
        case measure => decide
        case rel =>
          refine ⟨2, by go_num, by omega, ?_, hb.setCell (by rw [hz2]; exact Nat.le_refl _) _⟩
          have q := heap_setCell_same wr (w.heap.size + 1 + 1) 3 _ _ (.int .i64 (1 + pk c.n1 65535)) HV.out
          exact q
      · have c0 := cell_of_row wr w.heap.size 4 _ _ _ hcr
        have f0 := frozen_of_row wr (w.heap.size + 1 + 1) 4 _ _ HV.out
        have g0 := cell_of_row wr (w.heap.size + 1 + 1) 4 _ _ _ HV.out
        simp only [netsT] at g0
        clear hcr
        go_wp2_with fail
        refine (HP.out _ _ _ (Or.inr (Or.inr ⟨Or.inr (Or.inr (Or.inl rfl)), rfl⟩))).mono ?_
        rintro e w' ⟨rfl, rfl⟩
        go_wp2_with fail
        go_roundw
        case measure => decide
        case rel =>
          refine ⟨3, by go_num, by omega, ?_, hb.setCell (by rw [hz2]; exact Nat.le_refl _) _⟩
          have q := heap_setCell_same wr (w.heap.size + 1 + 1) 4 _ _ (.int .i64 (1 + pk c.n2 65535)) HV.out
          exact q
      · have c0 := cell_of_row wr w.heap.size 5 _ _ _ hcr
        have f0 := frozen_of_row wr (w.heap.size + 1 + 1) 5 _ _ HV.out
        have g0 := cell_of_row wr (w.heap.size + 1 + 1) 5 _ _ _ HV.out
        simp only [netsT] at g0
        clear hcr
        go_wp2_with fail
        refine (HP.out _ _ _ (Or.inr (Or.inr ⟨Or.inr (Or.inr (Or.inr rfl)), rfl⟩))).mono ?_
        rintro e w' ⟨rfl, rfl⟩
        go_wp2_with fail
        go_roundw
        case measure => decide
        case rel =>
          refine ⟨4, by go_num, by omega, ?_, hb.setCell (by rw [hz2]; exact Nat.le_refl _) _⟩
          have q := heap_setCell_same wr (w.heap.size + 1 + 1) 5 _ _ (.int .i64 (1 + pk c.n3 65535)) HV.out
          exact q
      · clear hcr
        have r0 := cell_of_row wr (w.heap.size + 1 + 1) 0 _ _ _ HV.out
        have r1 := cell_of_row wr (w.heap.size + 1 + 1) 1 _ _ _ HV.out
        have r2 := cell_of_row wr (w.heap.size + 1 + 1) 2 _ _ _ HV.out
        have r3 := cell_of_row wr (w.heap.size + 1 + 1) 3 _ _ _ HV.out
        have r4 := cell_of_row wr (w.heap.size + 1 + 1) 4 _ _ _ HV.out
        have r5 := cell_of_row wr (w.heap.size + 1 + 1) 5 _ _ _ HV.out
        have hr := (hb.block (w.heap.size + 1) (by omega)).trans hr2
        have f0 := frozen_of_row wr (w.heap.size + 1) 0 _ _ hr
        have f1 := frozen_of_row wr (w.heap.size + 1) 1 _ _ hr
        have f2 := frozen_of_row wr (w.heap.size + 1) 2 _ _ hr
        have f3 := frozen_of_row wr (w.heap.size + 1) 3 _ _ hr
        have f4 := frozen_of_row wr (w.heap.size + 1) 4 _ _ hr
        have f5 := frozen_of_row wr (w.heap.size + 1) 5 _ _ hr
        have g0 := cell_of_row wr (w.heap.size + 1) 0 _ _ _ hr
        have g1 := cell_of_row wr (w.heap.size + 1) 1 _ _ _ hr
        have g2 := cell_of_row wr (w.heap.size + 1) 2 _ _ _ hr
        have g3 := cell_of_row wr (w.heap.size + 1) 3 _ _ _ hr
        have g4 := cell_of_row wr (w.heap.size + 1) 4 _ _ _ hr
        have g5 := cell_of_row wr (w.heap.size + 1) 5 _ _ _ hr
        have HR : Hid (wr.heap[w.heap.size + 1]? = _) := hr
        clear hr
        simp only [netsT] at r0 r1 r2 r3 r4 r5
        go_wp2_with fail
        have k0 := heap_setCell_same _ (w.heap.size + 1) 0 _ _ (.int .i64 (1 + pk c.cp 128)) HR.out
        have k1 := heap_setCell_same _ (w.heap.size + 1) 1 _ _ (.int .i64 (1 + pk c.bu 64)) k0
        have k2 := heap_setCell_same _ (w.heap.size + 1) 2 _ _ (.int .i64 (1 + pk c.n0 65535)) k1
        have k3 := heap_setCell_same _ (w.heap.size + 1) 3 _ _ (.int .i64 (1 + pk c.n1 65535)) k2
        have k4 := heap_setCell_same _ (w.heap.size + 1) 4 _ _ (.int .i64 (1 + pk c.n2 65535)) k3
        have k5 := heap_setCell_same _ (w.heap.size + 1) 5 _ _ (.int .i64 (1 + pk c.n3 65535)) k4
        have e0 := cell_of_row _ (w.heap.size + 1) 0 _ _ _ k5
        have e1 := cell_of_row _ (w.heap.size + 1) 1 _ _ _ k5
        have e2 := cell_of_row _ (w.heap.size + 1) 2 _ _ _ k5
        have e3 := cell_of_row _ (w.heap.size + 1) 3 _ _ _ k5
        have e4 := cell_of_row _ (w.heap.size + 1) 4 _ _ _ k5
        have e5 := cell_of_row _ (w.heap.size + 1) 5 _ _ _ k5
        clear k0 k1 k2 k3 k4 k5
        have hO := below_setCells [.int .i64 (1 + pk c.cp 128), .int .i64 (1 + pk c.bu 64), .int .i64 (1 + pk c.n0 65535), .int .i64 (1 + pk c.n1 65535), .int .i64 (1 + pk c.n2 65535), .int .i64 (1 + pk c.n3 65535)] 0 (B := w.heap.size) (g := w.heap.size + 1) (hb2.trans (hb.mono hb2.size)) (by omega)
        refine bodyPost_ret (v := .agg #[.int .i64 (1 + pk c.cp 128), .int .i64 (1 + pk c.bu 64), .int .i64 (1 + pk c.n0 65535), .int .i64 (1 + pk c.n1 65535), .int .i64 (1 + pk c.n2 65535), .int .i64 (1 + pk c.n3 65535)]) (by simp [results, Tryz.results42, go_sem, e0, e1, e2, e3, e4, e5]) rfl ⟨rfl, hO⟩
end Go.Proofs.YtgkiknfpcbcnnabGreat

namespace Go.Proofs.YtgkiknfpcbcnnabGreat
open Go.RowKit
set_option maxRecDepth 20000

/-- What is announced to the gate that is played, at its beginning. -/
def r0 : Rt := ⟨0, 0, 0, 255⟩
def q0 : Rl := ⟨⟨#[1, 0]⟩, 0, 255⟩
theorem dS_all : dS ⟨#[1, 0]⟩ = [⟨1, 0, 0, []⟩] := by
  rw [all_dst]
  unfold dS
  rw [decS_complete _ (by decide)]
  rfl
theorem nS_all : nS [⟨1, 0, 0, []⟩] = 1 := by
  unfold nS
  simp [blkS]
theorem hold_all (c : Cf) : holdS c [r0] q0 = true := by
  unfold holdS q0
  simp only []
  rw [dS_all]
  simp [holdsP, who, best, bw, cutB, below, r0, netF]
theorem stats_begin {c : Cf} (h : cfOK c = true) : stats ⟨c, [r0], [q0]⟩ = [(q0, 3)] := by
  unfold cfOK at h
  simp only [isN, Bool.and_eq_true, decide_eq_true_eq] at h
  unfold stats
  have e : sortR [q0] = [q0] := rfl
  simp only [e]
  have hne : q0.tx ≠ ⟨#[]⟩ := by unfold q0; simp
  have hd : dS q0.tx = [⟨1, 0, 0, []⟩] := dS_all
  have h1 : decide (c.bu < ((1 : Nat) : Int)) = false := by simp; omega
  have h2 : decide (c.cp < 0 + ((1 : Nat) : Int)) = false := by simp; omega
  simp only [stF]
  rw [if_pos (hold_all c), if_neg hne, hd, nS_all, h1, h2]
  rfl
end Go.Proofs.YtgkiknfpcbcnnabGreat
