import Derived.Test.YtgkiknfpcbcnnabGreatSce
import Derived.Deep.RegionHeld3
namespace Go.Proofs.YtgkiknfpcbcnnabGreat
open Go.RowKit
set_option maxRecDepth 20000

theorem st1_of (c : Cf) (rts : List Rt) (last : ByteArray) (tot : Int) (full : Bool) (r : Rl) : 0 ≤ st1 c rts last tot full r ∧ (st1 c rts last tot full r = 1 → r.tx = last) := by
  unfold st1
  split
  · split
    · rename_i h; exact ⟨by omega, fun _ => h⟩
    · split
      · exact ⟨by omega, fun h => by omega⟩
      · exact ⟨by omega, fun h => by omega⟩
  · exact ⟨by omega, fun h => by omega⟩

set_option maxHeartbeats 1600000 in
theorem segment_any (X : XGate) (c : Cf) (l : List StS) (ao : Option Addr) (cap : Nat) (w : World) (h : CfI c) (hl : l.length ≤ 9223372036854775807) (hs : StepsB w w.heap.size ao l) :
    Calls Tryz.prog 3 #[cfV c, .slice ao l.length cap] w fun e w' => e = .returned (.bool true) ∧ Below w.heap.size w w' := by
  have HP : Hid (∀ w, StepsB w w.heap.size ao l → Calls Tryz.prog 9 #[cfV c, .slice ao l.length cap] w fun e w' => ∃ r x rts rls, e = .returned (.pointer (some ⟨r, 0, none⟩)) ∧ RunI X (w.heap.size + 1) w' r x (fitC c) false ⟨0, 0, 0, 0, 0, false⟩ gs0 rts rls ∧ Below w.heap.size w w') := fun w hs => played_any X c l ao cap w h hl hs
  have hs1 := (hs.below ((Below.refl _ w).alloc (Nat.le_refl _) (.cells #[.int .i64 c.cp, .int .i64 c.bu, .int .i64 c.n0, .int .i64 c.n1, .int .i64 c.n2, .int .i64 c.n3] 24))).mono (Nat.le_succ _)
  have HS : Hid (StepsB (w.alloc (.cells #[.int .i64 c.cp, .int .i64 c.bu, .int .i64 c.n0, .int .i64 c.n1, .int .i64 c.n2, .int .i64 c.n3] 24)) (w.heap.size + 1) ao l) := hs1
  clear h hs hl hs1
  unfold cfV
  unfold cfV at HP
  go_enter Tryz.func3, Tryz.ntmps3
  go_wp2_with fail
  refine (HP.out _ (by simp only [World.size_alloc]; exact HS.out)).mono ?_
  rintro e w1 ⟨r, x, rts, rls, rfl, hr1, hb1⟩
  have HB1 : Hid (Below w.heap.size w w1) := (below_alloc w _).trans (hb1.mono (by simp))
  clear HP HS hb1
  have hc0 : w1.cell? ⟨r, 0, none⟩ = some (.pointer (some ⟨x, 0, none⟩)) := by
    obtain ⟨tv, rv, lv, st, F, hj, _, _⟩ := hr1.ex
    exact cell_of_row w1 r 0 _ _ _ hj.cell
  have HST : Hid (Calls Tryz.prog 10 #[.pointer (some ⟨x, 0, none⟩)] w1 fun e w' => ∃ ao cap, e = .returned (.slice ao rls.length cap) ∧ TRow w' w1.heap.size (.slice ao rls.length cap) (stats ⟨fitC c, rts, rls⟩) ∧ RunI X (w.heap.size + 1 + 1) w' r x (fitC c) false ⟨0, 0, 0, 0, 0, false⟩ gs0 rts rls ∧ Below (w.heap.size + 1 + 1) w1 w') := by
    simp only [World.size_alloc] at hr1
    exact hr1.status
  have h24 := hr1.r24
  clear hr1
  go_wp2_with fail
  refine HST.out.mono ?_
  rintro e w2 ⟨so, sc, rfl, ht, hr2, hb2⟩
  have HB2 : Hid (Below w.heap.size w w2) := HB1.out.trans (hb2.mono (by omega))
  clear hb2 HB1
  have HLI : Hid (Calls Tryz.prog 11 #[.pointer (some ⟨r, 0, none⟩), .slice so rls.length sc] w2 fun e w' => e = .returned (.bool true) ∧ Below w2.heap.size w2 w') := hr2.listed ht
  have HT : Hid (TRow w2 w1.heap.size (.slice so rls.length sc) (stats ⟨fitC c, rts, rls⟩)) := ht
  have hc12 : w2.cell? ⟨r, 1, none⟩ = some (.int .i64 (fitC c).cp) ∧ w2.cell? ⟨r, 2, none⟩ = some (.int .i64 (fitC c).bu) ∧ r < w2.heap.size := by
    obtain ⟨tv, rv, lv, st, F, hj, _, _⟩ := hr2.ex
    exact ⟨cell_of_row w2 r 1 _ _ _ hj.cell, cell_of_row w2 r 2 _ _ _ hj.cell, hj.lt⟩
  have HTL : Hid (Tel rls) := hr2.tel
  clear ht hr2 HST hc0
  go_wp2_with fail
  refine HLI.out.mono ?_
  rintro e w3 ⟨rfl, hb3⟩
  clear HLI
  have HB3 : Hid (Below w.heap.size w w3) := HB2.out.trans (hb3.mono HB2.out.size)
  clear HB2
  obtain ⟨C, hC⟩ : ∃ C, C = fitC c := ⟨_, rfl⟩
  obtain ⟨M, hM⟩ : ∃ M, M = sortR rls := ⟨_, rfl⟩
  obtain ⟨T, hT⟩ : ∃ T, T = stF C rts ⟨#[]⟩ 0 false M := ⟨_, rfl⟩
  have HMp : Hid (M.Pairwise fun x y => erl x y = true) := by show List.Pairwise _ _; rw [hM]; exact sortR_sorted HTL.out
  have HMd : Hid (∀ q ∈ M, (decS q.tx).isSome = true) := by
    intro q hq
    rw [hM] at hq
    exact HTL.out.1 q ((sortR_perm rls).mem_iff.1 hq)
  have HML : Hid (M.length = rls.length ∧ T.length = rls.length) := by
    refine ⟨by rw [hM, (sortR_perm rls).length_eq], by rw [hT, stF_len, hM, (sortR_perm rls).length_eq]⟩
  have HRow : Hid (0 < rls.length → ∃ g, so = some ⟨g, 0, none⟩ ∧ g < w3.heap.size ∧ ∀ i, i < rls.length → ∃ (h1 : i < M.length) (h2 : i < T.length), w3.cell? ⟨g, i * 4, none⟩ = some (.string M[i].tx) ∧ w3.cell? ⟨g, i * 4 + 3, none⟩ = some (.int .i64 T[i])) := by
    intro hn
    have hl : (stats ⟨fitC c, rts, rls⟩).length = rls.length := stats_len _
    obtain ⟨g, hg, hgz, hcs⟩ := HT.out.get (by rw [hl]; exact hn)
    have hz := hb3.size
    refine ⟨g, hg, by omega, fun i hi => ?_⟩
    obtain ⟨c0, _, _, c3⟩ := hcs i (by rw [hl]; exact hi)
    obtain ⟨h1, h2, e1, e2⟩ := seg_row ⟨fitC c, rts, rls⟩ i (by rw [hl]; exact hi)
    rw [e1] at c0
    rw [e2] at c3
    subst hT
    subst hM
    subst hC
    exact ⟨h1, h2, (hb3.cell (p := ⟨g, i * 4, none⟩) hgz).trans c0, (hb3.cell (p := ⟨g, i * 4 + 3, none⟩) hgz).trans c3⟩
  have HS0 : Hid (SegI C rts M T 0 ⟨#[]⟩ 0 false) := by show SegI _ _ _ _ _ _ _ _; rw [hT]; exact SegI.zero C rts M
  obtain ⟨k1, k2, hrz⟩ := hc12
  rw [← hC] at k1 k2
  have x1 := (hb3.cell (p := ⟨r, 1, none⟩) hrz).trans k1
  have x2 := (hb3.cell (p := ⟨r, 2, none⟩) hrz).trans k2
  have hrz3 : r < w3.heap.size := by have := hb3.size; omega
  clear k1 k2 hC hM hT HT HTL hb3 hrz
  generalize rls.length = n at *
  go_wp2_with fail
  go_loopw [8, 9, 10] (fun o u y wr => ∃ (i : Nat) (last : ByteArray) (tot : Int) (full op : Bool), y = .int .i64 i ∧ i ≤ n ∧ o = .bool op ∧ Hid (op = !full) ∧ u = .int .i64 tot ∧ Hid (SegI C rts M T i last tot full) ∧ Below w3.heap.size w3 wr) (fun _ _ y _ => n - (intOf y).toNat)
  case atStart => exact ⟨0, _, 0, false, true, rfl, Nat.zero_le _, rfl, rfl, rfl, HS0, Below.refl _ _⟩
  case round =>
    obtain ⟨i, last, tot, full, op, rfl, hi, rfl, HOP, rfl, HSI, hbel⟩ := hrel
    by_cases hlt : i < n
    · obtain ⟨g, rfl, hgz, hcs⟩ := HRow.out (by omega)
      have HCS : Hid (∀ i, i < n → ∃ (h1 : i < M.length) (h2 : i < T.length), w3.cell? ⟨g, i * 4, none⟩ = some (.string M[i].tx) ∧ w3.cell? ⟨g, i * 4 + 3, none⟩ = some (.int .i64 T[i])) := hcs
      obtain ⟨hiM, hiT, s0, s3⟩ := hcs i hlt
      clear hcs HRow
      have HTK := HSI.out.taken hiM HMp.out HMd.out
      obtain ⟨stx, hstx⟩ : ∃ stx, stx = M[i].tx := ⟨_, rfl⟩
      obtain ⟨sst, hsst⟩ : ∃ sst, sst = T[i] := ⟨_, rfl⟩
      rw [← hstx] at s0
      rw [← hsst] at s3
      have HSX : Hid (stx = M[i].tx ∧ sst = T[i]) := ⟨hstx, hsst⟩
      have HTK2 : Hid ((∃ m, ∃ (h1 : m < M.length) (h2 : m < T.length), m < i ∧ M[m].tx = stx ∧ 1 < T[m]) ↔ stx = last) := by show _ ↔ _; rw [hstx]; exact HTK
      clear HTK hstx hsst
      go_wp2_with fail
      go_loopw [11, 12] (fun t y wr2 => ∃ (k : Nat) (tk : Bool), y = .int .i64 k ∧ k ≤ i ∧ t = .bool tk ∧ Hid (tk = true ↔ ∃ m, ∃ (h1 : m < M.length) (h2 : m < T.length), m < k ∧ M[m].tx = stx ∧ 1 < T[m]) ∧ Below w3.heap.size w3 wr2) (fun _ y _ => i - (intOf y).toNat)
      case atStart => exact ⟨0, false, rfl, Nat.zero_le _, rfl, ⟨fun h => (by cases h), fun ⟨m, _, _, h, _⟩ => (by omega)⟩, hbel⟩
      case round =>
        obtain ⟨k, tk, rfl, hk, rfl, HKT, hbk⟩ := hrel
        by_cases hkl : k < i
        · obtain ⟨hkM, hkT, t0, t3⟩ := HCS.out k (by omega)
          have c0 := (hbk.cell (p := ⟨g, k * 4, none⟩) hgz).trans t0
          have c3 := (hbk.cell (p := ⟨g, k * 4 + 3, none⟩) hgz).trans t3
          have d0 := (hbk.cell (p := ⟨g, i * 4, none⟩) hgz).trans s0
          have HNX : Hid ((∃ m, ∃ (h1 : m < M.length) (h2 : m < T.length), m < k + 1 ∧ M[m].tx = stx ∧ 1 < T[m]) ↔ (tk = true ∨ (M[k].tx = stx ∧ 1 < T[k]))) := by
            show _ ↔ _
            rw [HKT.out]
            constructor
            · rintro ⟨m, h1, h2, hm, hp⟩
              by_cases he : m = k
              · subst he; exact .inr hp
              · exact .inl ⟨m, h1, h2, by omega, hp⟩
            · rintro (⟨m, h1, h2, hm, hp⟩ | hp)
              · exact ⟨m, h1, h2, by omega, hp⟩
              · exact ⟨k, hkM, hkT, by omega, hp⟩
          clear HKT t0 t3 s0 s3
          generalize M[k].tx = ktx at *
          generalize T[k] = kst at *
          have m0 : (0 : Int) ≤ (k : Int) := by omega
          have m1 : (k : Int) < (n : Int) := by omega
          have m2 : (0 : Int) ≤ (i : Int) := by omega
          have m3 : (i : Int) < (n : Int) := by omega
          cases tk
          · by_cases e1 : ktx = stx
            · subst e1
              by_cases e2 : 1 < kst
              · have HN : Hid (true = true ↔ ∃ m, ∃ (h1 : m < M.length) (h2 : m < T.length), m < k + 1 ∧ M[m].tx = ktx ∧ 1 < T[m]) := by show _ ↔ _; rw [HNX.out]; simp [e2]
                have q1 : decide (1 < kst) = true := by simpa using e2
                clear HNX e2
                go_wp2_with fail
                go_quiet (fail)
                go_wp2_with fail
                go_roundw
                case rel => exact ⟨k + 1, true, by go_num, by omega, rfl, ⟨fun _ => HN.out.1 trivial, fun _ => rfl⟩, below_drewN hbk _⟩
                case measure => simp [intOf]; omega
              · have HN : Hid (false = true ↔ ∃ m, ∃ (h1 : m < M.length) (h2 : m < T.length), m < k + 1 ∧ M[m].tx = ktx ∧ 1 < T[m]) := by show _ ↔ _; rw [HNX.out]; simp [e2]
                have q1 : decide (1 < kst) = false := by simpa using e2
                clear HNX e2
                go_wp2_with fail
                go_quiet (fail)
                go_wp2_with fail
                go_roundw
                case rel => exact ⟨k + 1, false, by go_num, by omega, rfl, HN, below_drewN hbk _⟩
                case measure => simp [intOf]; omega
            · have HN : Hid (false = true ↔ ∃ m, ∃ (h1 : m < M.length) (h2 : m < T.length), m < k + 1 ∧ M[m].tx = stx ∧ 1 < T[m]) := by show _ ↔ _; rw [HNX.out]; simp [e1]
              have q1 := text_ne e1
              clear HNX e1
              go_wp2_with fail
              go_quiet (fail)
              go_wp2_with fail
              go_roundw
              case rel => exact ⟨k + 1, false, by go_num, by omega, rfl, HN, below_drewN hbk _⟩
              case measure => simp [intOf]; omega
          · have HN : Hid (true = true ↔ ∃ m, ∃ (h1 : m < M.length) (h2 : m < T.length), m < k + 1 ∧ M[m].tx = stx ∧ 1 < T[m]) := by show _ ↔ _; rw [HNX.out]; simp
            clear HNX
            go_wp2_with fail
            go_quiet (fail)
            go_wp2_with fail
            go_roundw
            case rel => exact ⟨k + 1, true, by go_num, by omega, rfl, ⟨fun _ => HN.out.1 trivial, fun _ => rfl⟩, below_drewN hbk _⟩
            case measure => simp [intOf]; omega
        · have HKL : Hid (tk = true ↔ stx = last) := by
            show _ ↔ _
            have hki : k = i := by omega
            rw [HKT.out, ← HTK2.out, hki]
          have hds := HMd.out _ (List.getElem_mem hiM)
          rw [← HSX.out.1] at hds
          have HC : Hid (∀ w', Below wr.heap.size wr w' → Calls Tryz.prog 12 #[.string stx] w' fun e w'' => e = .returned (.tuple #[.int .i64 ((nS (dS stx) : Nat) : Int), .int .i64 0]) ∧ Below wr.heap.size wr w'') := by
            intro w' hx
            have q := flowCount_any stx w' (text_size hds)
            rw [eS_some hds] at q
            unfold ctC at q
            rw [if_pos hds] at q
            refine q.mono ?_
            rintro e w'' ⟨rfl, hy⟩
            exact ⟨rfl, hx.trans (hy.mono hx.size)⟩
          have hgw : g < wr.heap.size := by have := hbk.size; omega
          have hrw : r < wr.heap.size := by have := hbk.size; omega
          have y0 := (hbk.cell (p := ⟨g, i * 4, none⟩) hgz).trans s0
          have y3 := (hbk.cell (p := ⟨g, i * 4 + 3, none⟩) hgz).trans s3
          have z1 := (hbk.cell (p := ⟨r, 1, none⟩) hrz3).trans x1
          have z2 := (hbk.cell (p := ⟨r, 2, none⟩) hrz3).trans x2
          have HSS : Hid (∀ w', Below wr.heap.size wr w' → w'.cell? ⟨g, i * 4, none⟩ = some (.string stx) ∧ w'.cell? ⟨g, i * 4 + 3, none⟩ = some (.int .i64 sst) ∧ w'.cell? ⟨r, 1, none⟩ = some (.int .i64 C.cp) ∧ w'.cell? ⟨r, 2, none⟩ = some (.int .i64 C.bu) ∧ Below wr.heap.size wr w') := fun w' hx => ⟨(hx.cell (p := ⟨g, i * 4, none⟩) hgw).trans y0, (hx.cell (p := ⟨g, i * 4 + 3, none⟩) hgw).trans y3, (hx.cell (p := ⟨r, 1, none⟩) hrw).trans z1, (hx.cell (p := ⟨r, 2, none⟩) hrw).trans z2, hx⟩
          have HBK : Hid (Below w3.heap.size w3 wr) := hbk
          have m2 : (0 : Int) ≤ (i : Int) := by omega
          have m3 : (i : Int) < (n : Int) := by omega
          have HAT := HSI.out.at_ hiM hiT
          rw [← HSX.out.2] at HAT
          obtain ⟨hp0, hp1⟩ := st1_of C rts last tot full M[i]
          rw [← HAT, ← HSX.out.1] at hp1
          rw [← HAT] at hp0
          have HSTAY : Hid (sst ≤ 1 → SegI C rts M T (i + 1) last tot full) := fun h => HSI.out.stay hiM hiT (by rw [← HSX.out.2]; exact h)
          have HGO : Hid (1 < sst → stx ≠ last ∧ (sst = 3 ↔ (full || (decide (C.bu < (nS (dS stx) : Int)) || decide (C.cp < tot + (nS (dS stx) : Int)))) = false) ∧ sst ≤ 3 ∧ SegI C rts M T (i + 1) stx (tot + (nS (dS stx) : Int)) (full || (decide (C.bu < (nS (dS stx) : Int)) || decide (C.cp < tot + (nS (dS stx) : Int))))) := fun h => by
            have q := HSI.out.go hiM hiT (by rw [← HSX.out.2]; exact h)
            rw [← HSX.out.1, ← HSX.out.2] at q
            exact q
          have hnb := nS_bd (dS stx)
          have ht0 := HSI.out.t0
          have htb := HSI.out.tb
          clear HKT HTK2 HAT HSX HSI y3 z1 z2 s0 s3 hbk hds x1 x2 HCS HMp HMd HML
          generalize nS (dS stx) = N at *
          go_wp2_with fail
          refine (HC.out _ (Below.refl _ _)).mono ?_
          rintro e w5 ⟨rfl, hb5⟩
          clear y0
          obtain ⟨y0, y3, z1, z2, _⟩ := HSS.out w5 hb5
          have hb35 : Below w3.heap.size w3 w5 := HBK.out.trans (hb5.mono HBK.out.size)
          clear HSS HC hb5 HBK
          by_cases s1 : sst ≤ 1
          · have HST2 : Hid (SegI C rts M T (i + 1) last tot full) := HSTAY.out s1
            clear HSTAY HGO
            by_cases s0 : sst = 0
            · subst s0
              clear HKL hp0 hp1 s1
              go_wp2_with fail
              go_roundw
              case rel => exact ⟨i + 1, last, tot, full, op, by go_num, by omega, rfl, HOP, rfl, HST2, hb35⟩
              case measure => simp [intOf]; omega
            · have s1' : sst = 1 := by omega
              subst s1'
              have htk : tk = true := HKL.out.2 (hp1 rfl)
              subst htk
              clear HKL hp0 hp1 s1 s0
              go_wp2_with fail
              go_roundw
              case rel => exact ⟨i + 1, last, tot, full, op, by go_num, by omega, rfl, HOP, rfl, HST2, hb35⟩
              case measure => simp [intOf]; omega
          · obtain ⟨hne, h3, hle, hnext⟩ := HGO.out (by omega)
            have htk : tk = false := by
              cases tk
              · rfl
              · exact absurd (HKL.out.1 rfl) hne
            subst htk
            have hwr : IntKind.i64.wrap (tot + (N : Int)) = tot + (N : Int) := by simp [IntKind.wrap, IntKind.signed, IntKind.bits]; omega
            clear HSTAY HGO hne HKL hp0 hp1
            by_cases e3 : sst = 3
            · have hf := h3.1 e3
              rw [hf] at hnext
              have HN2 : Hid (SegI C rts M T (i + 1) stx (tot + (N : Int)) false) := hnext
              simp only [Bool.or_eq_false_iff, decide_eq_false_iff_not] at hf
              have q1 : decide ((N : Int) ≤ C.bu) = true := by simp only [decide_eq_true_eq]; omega
              have q2 : decide (tot + (N : Int) ≤ C.cp) = true := by simp only [decide_eq_true_eq]; omega
              have hop : op = true := by rw [HOP.out, hf.1]; rfl
              subst hop
              subst e3
              clear h3 hnext hf hle s1 HOP
              go_wp2_with fail
              go_roundw
              case rel => exact ⟨i + 1, stx, tot + (N : Int), false, true, by go_num, by omega, rfl, rfl, rfl, HN2, hb35⟩
              case measure => simp [intOf]; omega
            · have e2 : sst = 2 := by omega
              have hf : (full || (decide (C.bu < (N : Int)) || decide (C.cp < tot + (N : Int)))) = true := by
                cases hh : (full || (decide (C.bu < (N : Int)) || decide (C.cp < tot + (N : Int))))
                · exact absurd (h3.2 hh) e3
                · rfl
              rw [hf] at hnext
              have HN2 : Hid (SegI C rts M T (i + 1) stx (tot + (N : Int)) true) := hnext
              simp only [Bool.or_eq_true, decide_eq_true_eq] at hf
              subst e2
              cases hfu : full
              · have hop : op = true := by rw [HOP.out, hfu]; rfl
                subst hop
                have hf2 : C.bu < (N : Int) ∨ C.cp < tot + (N : Int) := by
                  rcases hf with h | h
                  · rw [hfu] at h; cases h
                  · exact h
                by_cases hb : C.bu < (N : Int)
                · have q1 : decide ((N : Int) ≤ C.bu) = false := by simp only [decide_eq_false_iff_not]; omega
                  clear h3 hnext hf hf2 hb hle s1 HOP e3 hfu
                  go_wp2_with fail
                  go_roundw
                  case rel => exact ⟨i + 1, stx, tot + (N : Int), true, false, by go_num, by omega, rfl, rfl, rfl, HN2, hb35⟩
                  case measure => simp [intOf]; omega
                · have q1 : decide ((N : Int) ≤ C.bu) = true := by simp only [decide_eq_true_eq]; omega
                  have q2 : decide (tot + (N : Int) ≤ C.cp) = false := by simp only [decide_eq_false_iff_not]; omega
                  clear h3 hnext hf hf2 hb hle s1 HOP e3 hfu
                  go_wp2_with fail
                  go_roundw
                  case rel => exact ⟨i + 1, stx, tot + (N : Int), true, false, by go_num, by omega, rfl, rfl, rfl, HN2, hb35⟩
                  case measure => simp [intOf]; omega
              · have hop : op = false := by rw [HOP.out, hfu]; rfl
                subst hop
                clear h3 hnext hf hle s1 HOP e3 hfu
                go_wp2_with fail
                go_roundw
                case rel => exact ⟨i + 1, stx, tot + (N : Int), true, false, by go_num, by omega, rfl, rfl, rfl, HN2, hb35⟩
                case measure => simp [intOf]; omega
    · go_wp2_with fail
      go_ret
      exact ⟨rfl, HB3.out.trans (hbel.mono HB3.out.size)⟩
end Go.Proofs.YtgkiknfpcbcnnabGreat
