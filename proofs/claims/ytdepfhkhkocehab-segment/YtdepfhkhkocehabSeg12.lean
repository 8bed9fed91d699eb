import Derived.Test.YtdepfhkhkocehabSeg11
import Derived.Deep.RegionHeld3
namespace Go.Proofs.Ytdepfhkhkocehab
open Go.RowKit
set_option maxRecDepth 20000

set_option maxHeartbeats 1600000 in
theorem listed_any (r : Nat) (lo ao : Option Addr) (lc cap B : Nat) (rls : List Rl) (L : List (Rl × Int)) (w : World) (h8 : w.cell? ⟨r, 8, none⟩ = some (.slice lo rls.length lc)) (hrz : r < w.heap.size) (hin : ClIn w lo rls) (ht : TRow w B (.slice ao L.length cap) L) (h24 : rls.length ≤ 24)
    (hm : ∀ i (h : i < L.length), L[i].1 ∈ rls) (hd : ∀ q ∈ rls, (decS q.tx).isSome = true) (he : ∀ i (h : i + 1 < L.length), erl (L[i]'(Nat.lt_of_succ_lt h)).1 (L[i + 1]'h).1 = true) (hl : L.length = rls.length) :
    Calls Try.prog 7 #[.pointer (some ⟨r, 0, none⟩), .slice ao L.length cap] w fun e w' => e = .returned (.bool true) ∧ Below w.heap.size w w' := by
  have HL : Hid (L.length = rls.length) := hl
  have hl0 : ((L.length : Int) != (rls.length : Int)) = false := by rw [hl]; simp
  have h24L : L.length ≤ 24 := by omega
  clear hl
  have HIN : Hid (ClIn w lo rls) := hin
  have HT : Hid (TRow w B (.slice ao L.length cap) L) := ht
  have HM : Hid (∀ i (h : i < L.length), L[i].1 ∈ rls) := hm
  have HD : Hid (∀ q ∈ rls, (decS q.tx).isSome = true) := hd
  have HE : Hid (∀ i (h : i + 1 < L.length), erl (L[i]'(Nat.lt_of_succ_lt h)).1 (L[i + 1]'h).1 = true) := he
  clear hin ht hm hd he
  go_enter Try.func7, Try.ntmps7
  go_wp2_with fail
  go_loopw [5] (fun x wr => ∃ i : Nat, x = .int .i64 i ∧ i ≤ L.length ∧ Below w.heap.size w wr) (fun x _ => L.length - (intOf x).toNat)
  case atStart => exact ⟨0, rfl, Nat.zero_le _, Below.refl _ _⟩
  case round =>
    obtain ⟨i, rfl, hi, hbel⟩ := hrel
    by_cases hlt : i < L.length
    · obtain ⟨g, rfl, hgz, hcs⟩ := HT.out.get (by omega)
      have hmi := HM.out i hlt
      have HS : Hid (∀ j (h : j < L.length), w.cell? ⟨g, j * 4, none⟩ = some (.string L[j].1.tx) ∧ w.cell? ⟨g, j * 4 + 1, none⟩ = some (.int .i64 L[j].1.pe)) := fun j h => ⟨(hcs j h).1, (hcs j h).2.1⟩
      obtain ⟨s0, s1, s2, s3⟩ := hcs i hlt
      obtain ⟨sl, hsl⟩ : ∃ sl, sl = L[i].1 := ⟨_, rfl⟩
      rw [← hsl] at s0 s1 s2 hmi
      have HSL : Hid (sl = L[i].1) := hsl
      clear hsl hcs s3
      obtain ⟨stx, spe, sac⟩ := sl
      simp only [] at s0 s1 s2
      go_wp2_with fail
      go_loopw [6, 7] (fun b x wr2 => ∃ (k : Nat) (bb : Bool), x = .int .i64 k ∧ k ≤ rls.length ∧ b = .bool bb ∧ Hid (bb = (rls.take k).any fun q => eqB q ⟨stx, spe, sac⟩) ∧ Below w.heap.size w wr2) (fun _ x _ => rls.length - (intOf x).toNat)
      case atStart => exact ⟨0, false, rfl, Nat.zero_le _, rfl, by show _ = _; simp, hbel⟩
      case round =>
        obtain ⟨k, bb, rfl, hk, rfl, HBB, hbk⟩ := hrel
        have hz := hbk.size
        have k8 := (hbk.cell (p := ⟨r, 8, none⟩) hrz).trans h8
        by_cases hkl : k < rls.length
        · obtain ⟨rk, ro, rfl, hrk, d0, d1, d2⟩ := HIN.out.below hbk k hkl
          have c0 := (hbk.cell (p := ⟨g, i * 4, none⟩) hgz).trans s0
          have c1 := (hbk.cell (p := ⟨g, i * 4 + 1, none⟩) hgz).trans s1
          have c2 := (hbk.cell (p := ⟨g, i * 4 + 2, none⟩) hgz).trans s2
          have HNX : Hid ((rls.take (k + 1)).any (fun q => eqB q ⟨stx, spe, sac⟩) = (bb || eqB rls[k] ⟨stx, spe, sac⟩)) := by
            show _ = _
            rw [List.take_succ_eq_append_getElem hkl, List.any_append, ← HBB.out]
            simp
          generalize rls[k] = q at *
          obtain ⟨qtx, qpe, qac⟩ := q
          simp only [] at d0 d1 d2
          have hgw : g < wr.heap.size := by omega
          have hgn : ¬ wr.heap.size = g := by omega
          have hgm : ¬ g = wr.heap.size := by omega
          clear HBB h8 s0 s1 s2
          cases bb
          · by_cases e1 : qpe = spe
            · subst e1
              have q0 : (qpe == qpe) = true := by simp
              by_cases e2 : qtx = stx
              · subst e2
                by_cases e3 : qac = sac
                · subst e3
                  have HN : Hid (true = (rls.take (k + 1)).any fun q => eqB q ⟨qtx, qpe, qac⟩) := by show _ = _; rw [HNX.out]; simp [eqB]
                  have q2 : (qac == qac) = true := by simp
                  clear HNX
                  go_wp2_with fail
                  go_quiet (fail)
                  go_wp2_with fail
                  go_roundw
                  case rel => exact ⟨k + 1, true, by go_num, by omega, rfl, HN, below_drewN (hbk.alloc hz _) _⟩
                  case measure => simp [intOf]; omega
                · have HN : Hid (false = (rls.take (k + 1)).any fun q => eqB q ⟨qtx, qpe, sac⟩) := by show _ = _; rw [HNX.out]; simp [eqB, e3]
                  have q2 : (qac == sac) = false := by simpa using e3
                  clear HNX e3
                  go_wp2_with fail
                  go_quiet (fail)
                  go_wp2_with fail
                  go_roundw
                  case rel => exact ⟨k + 1, false, by go_num, by omega, rfl, HN, below_drewN (hbk.alloc hz _) _⟩
                  case measure => simp [intOf]; omega
              · have HN : Hid (false = (rls.take (k + 1)).any fun q => eqB q ⟨stx, qpe, sac⟩) := by show _ = _; rw [HNX.out]; simp [eqB, e2]
                have q1 := text_ne e2
                clear HNX e2
                go_wp2_with fail
                go_quiet (fail)
                go_wp2_with fail
                go_roundw
                case rel => exact ⟨k + 1, false, by go_num, by omega, rfl, HN, below_drewN (hbk.alloc hz _) _⟩
                case measure => simp [intOf]; omega
            · have HN : Hid (false = (rls.take (k + 1)).any fun q => eqB q ⟨stx, spe, sac⟩) := by show _ = _; rw [HNX.out]; simp [eqB, e1]
              have q0 : (qpe == spe) = false := by simpa using e1
              clear HNX e1
              go_wp2_with fail
              go_quiet (fail)
              go_wp2_with fail
              go_roundw
              case rel => exact ⟨k + 1, false, by go_num, by omega, rfl, HN, below_drewN (hbk.alloc hz _) _⟩
              case measure => simp [intOf]; omega
          · have HN : Hid (true = (rls.take (k + 1)).any fun q => eqB q ⟨stx, spe, sac⟩) := by show _ = _; rw [HNX.out]; simp
            clear HNX
            go_wp2_with fail
            go_quiet (fail)
            go_wp2_with fail
            go_roundw
            case rel => exact ⟨k + 1, true, by go_num, by omega, rfl, HN, below_drewN (hbk.alloc hz _) _⟩
            case measure => simp [intOf]; omega
        · have hbb : bb = true := by
            rw [HBB.out, List.take_of_length_le (by omega), List.any_eq_true]
            exact ⟨_, hmi, eqB_self _⟩
          subst hbb
          have h0 := (hbk.cell (p := ⟨g, i * 4, none⟩) hgz).trans s0
          have h1 := (hbk.cell (p := ⟨g, i * 4 + 1, none⟩) hgz).trans s1
          clear HBB hmi s0 s1 s2
          by_cases hi0 : i = 0
          · subst hi0
            go_wp2_with fail
            go_roundw
            case rel => exact ⟨1, by go_num, by omega, hbk⟩
            case measure => simp [intOf]; omega
          · obtain ⟨j, ptx, ppe, hij, f0, f1, hce, hcc, hcp, hza, hzb⟩ : ∃ j ptx ppe, i = j + 1 ∧ wr.cell? ⟨g, j * 4, none⟩ = some (.string ptx) ∧ wr.cell? ⟨g, j * 4 + 1, none⟩ = some (.int .i64 ppe) ∧ cE ptx stx = 0 ∧ cC ptx stx ≤ 0 ∧ (cC ptx stx = 0 → ppe < spe) ∧ ptx.size ≤ 140737488351232 ∧ stx.size ≤ 140737488351232 := by
              obtain ⟨j, rfl⟩ : ∃ j, i = j + 1 := ⟨i - 1, by omega⟩
              obtain ⟨p0, p1⟩ := HS.out j (by omega)
              have hda := HD.out _ (HM.out j (by omega))
              have hdb := HD.out _ (HM.out (j + 1) hlt)
              have q := erl_cmp hda hdb (HE.out j hlt)
              rw [← HSL.out] at hdb q
              exact ⟨j, _, _, rfl, (hbk.cell (p := ⟨g, j * 4, none⟩) hgz).trans p0, (hbk.cell (p := ⟨g, j * 4 + 1, none⟩) hgz).trans p1, q.1, q.2.1, q.2.2, text_size hda, text_size hdb⟩
            have HC : Hid (∀ w', Below wr.heap.size wr w' → Calls Try.prog 13 #[.string ptx, .string stx] w' fun e w'' => e = .returned (.tuple #[.int .i64 (cC ptx stx), .int .i64 0]) ∧ Below wr.heap.size wr w'') := by
              intro w' hx
              have q := compare_any ptx stx w' hza hzb
              rw [hce] at q
              refine q.mono ?_
              rintro e w'' ⟨rfl, hy⟩
              exact ⟨rfl, hx.trans (hy.mono hx.size)⟩
            have hgw : g < wr.heap.size := by omega
            have HSS : Hid (∀ w', Below wr.heap.size wr w' → w'.cell? ⟨g, j * 4, none⟩ = some (.string ptx) ∧ w'.cell? ⟨g, j * 4 + 1, none⟩ = some (.int .i64 ppe) ∧ w'.cell? ⟨g, i * 4, none⟩ = some (.string stx) ∧ w'.cell? ⟨g, i * 4 + 1, none⟩ = some (.int .i64 spe) ∧ Below wr.heap.size wr w') := fun w' hx => ⟨(hx.cell (p := ⟨g, j * 4, none⟩) hgw).trans f0, (hx.cell (p := ⟨g, j * 4 + 1, none⟩) hgw).trans f1, (hx.cell (p := ⟨g, i * 4, none⟩) hgw).trans h0, (hx.cell (p := ⟨g, i * 4 + 1, none⟩) hgw).trans h1, hx⟩
            have hw1 : IntKind.i64.wrap ((i : Int) - 1) = (j : Int) := by simp [IntKind.wrap, IntKind.signed, IntKind.bits]; omega
            have n0 : (0 : Int) ≤ (i : Int) := by omega
            have n1 : (i : Int) < (L.length : Int) := by omega
            have n2 : (0 : Int) ≤ (j : Int) := by omega
            have n3 : (j : Int) < (L.length : Int) := by omega
            have n4 : ((i : Int) == 0) = false := by simpa using hi0
            clear hza hzb hce HS HSL f0 f1 h0 h1 hij hi0
            generalize cC ptx stx = cv at *
            have hgt : decide (0 < cv) = false := by simpa using hcc
            go_wp2_with fail
            go_region_held3 (fun w' => w'.cell? ⟨g, j * 4, none⟩ = some (.string ptx) ∧ w'.cell? ⟨g, j * 4 + 1, none⟩ = some (.int .i64 ppe) ∧ w'.cell? ⟨g, i * 4, none⟩ = some (.string stx) ∧ w'.cell? ⟨g, i * 4 + 1, none⟩ = some (.int .i64 spe) ∧ Below wr.heap.size wr w')
              (first | exact HSS.out _ (by assumption) | exact HSS.out _ (Below.refl _ _).drew)
              (first | (go_at_call 13; refine (HC.out _ (by first | exact (Below.refl _ _).drew | (go_split_ands; assumption))).mono ?_; rintro e w5 ⟨rfl, hb5⟩))
            have hsw := HSS.out w5 hb5
            obtain ⟨y0, y1, y2, y3, _⟩ := hsw
            have hbw5 : Below w.heap.size w w5 := hbk.trans (hb5.mono hbk.size)
            clear HSS HC
            by_cases h00 : cv = 0
            · have q4 : decide (spe ≤ ppe) = false := by have := hcp h00; simpa using this
              have q5 : (cv == 0) = true := by simpa using h00
              clear hcp hcc h00
              go_wp2_with fail
              go_quiet (fail)
              go_wp2_with fail
              go_roundw
              case rel => exact ⟨i + 1, by go_num, by omega, below_drewN hbw5 _⟩
              case measure => simp [intOf]; omega
            · have q5 : (cv == 0) = false := by simpa using h00
              clear hcp hcc h00
              go_wp2_with fail
              go_quiet (fail)
              go_wp2_with fail
              go_roundw
              case rel => exact ⟨i + 1, by go_num, by omega, below_drewN hbw5 _⟩
              case measure => simp [intOf]; omega
    · go_wp2_with fail
      go_ret
      exact ⟨rfl, hbel⟩
end Go.Proofs.Ytdepfhkhkocehab
