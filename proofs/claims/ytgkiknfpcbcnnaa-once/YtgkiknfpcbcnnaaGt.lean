import Derived.Test.YtgkiknfpcbcnnaaGs
import Derived.Test.YtgkiknfpcbcnnaaCov1
namespace Go.Proofs.Ytgkiknfpcbcnnaa
open Go.RowKit
set_option maxRecDepth 20000

/-- How many of the first i texts fit. -/
def cntF (L : List ByteArray) (b : ByteArray) (i : Nat) : Nat := (L.take i).countP (fun c => fitL (bl c) (bl b))
theorem cntF_step (L : List ByteArray) (b : ByteArray) (i : Nat) (h : i < L.length) : cntF L b (i + 1) = cntF L b i + (if fitL (bl L[i]) (bl b) then 1 else 0) := by
  unfold cntF
  rw [List.take_succ_eq_append_getElem h, List.countP_append]
  cases hx : fitL (bl L[i]) (bl b) <;> simp [hx]
theorem cntF_le (L : List ByteArray) (b : ByteArray) (i : Nat) : cntF L b i ≤ i := by
  unfold cntF
  have := List.countP_le_length (p := fun c => fitL (bl c) (bl b)) (l := L.take i)
  have h2 : (L.take i).length ≤ i := by rw [List.length_take]; omega
  omega
theorem cntF_all (L : List ByteArray) (b : ByteArray) (M : List (List UInt8)) (h : L.map bl = M) : cntF L b L.length = M.countP (fun c => fitL c (bl b)) := by
  unfold cntF
  rw [List.take_length, ← h, List.countP_map]
  rfl

set_option maxHeartbeats 1000000 in
theorem once_any (ps : List Pt) (hR : isR ps = true) (s : ByteArray) (hd : decS s = some ps) (hs : s.size ≤ 140737488351232) (n1 n2 n3 n4 n5 : Nat) (la : Bool) (w : World) (h1 : n1 ≤ 65535) (h2 : n2 ≤ 65535) (h3 : n3 ≤ 255) (h4 : n4 ≤ 65535) (h5 : n5 ≤ 255) :
    Calls Try.prog 40 #[.string s, .agg #[.int .i64 n1, .int .i64 n2, .int .i64 n3, .int .i64 n4, .int .i64 n5, .bool la]] w fun e w' => e = .returned (.bool true) ∧ Below w.heap.size w w' := by
  have hsm : (decS s).isSome = true := by rw [hd]; rfl
  have hdS : dS s = ps := by unfold dS; rw [hd]; rfl
  have hh : hdOK ⟨n1, n2, n3, n4, n5, la⟩ = true := by
    simp only [hdOK, Bool.and_eq_true]
    exact ⟨⟨⟨⟨isN_true (by omega) (by omega), isN_true (by omega) (by omega)⟩, isN_true (by omega) (by omega)⟩, isN_true (by omega) (by omega)⟩, isN_true (by omega) (by omega)⟩
  have hE : eS s = 0 := eS_yes hsm
  obtain ⟨hmB, hmE, _⟩ := mB_some hsm hh
  have hct : ctC s = nS ps := by unfold ctC; rw [hsm, hdS]; rfl
  have HM := match_any s ⟨n1, n2, n3, n4, n5, la⟩
  have hcnt := cubS_count ps hR ⟨n1, n2, n3, n4, n5, la⟩ hh
  have hce : cbE s = if nS ps ≤ 256 then 0 else 4 := by unfold cbE; rw [hsm, hdS]; rfl
  have hcl : cbL s = if nS ps ≤ 256 then cubS ps else [] := by unfold cbL; rw [hsm, hdS]; by_cases hx : nS ps ≤ 256 <;> simp [hx]
  have hlen : (cubS ps).length = nS ps := by rw [cubS_range, List.length_map, List.length_range]
  have hcw : ∀ b ∈ cubS ps, b.length = 65 := by
    intro b hb
    have hP : ∀ p ∈ ps, isP p = true := by
      unfold isR at hR
      simp only [Bool.and_eq_true] at hR
      intro p hp
      obtain ⟨j, hj, rfl⟩ := List.getElem_of_mem hp
      exact allP_get ps 0 hR.1 j hj
    unfold cubS at hb
    simp only [List.mem_flatMap, List.mem_map] at hb
    obtain ⟨a, ha, b', hb', c, hc, rfl⟩ := hb
    obtain ⟨d, hd1⟩ := blkS_one 1 (.inl rfl) ps
    obtain ⟨e, he1⟩ := blkS_one 2 (.inr rfl) ps
    have l1 : d.length = 16 := blkS_w 1 ps hP d (by rw [hd1]; simp)
    have l2 : e.length = 16 := blkS_w 2 ps hP e (by rw [he1]; simp)
    have l3 : a.length = 8 := blkS_w 3 ps hP a ha
    have l4 : b'.length = 16 := blkS_w 4 ps hP b' hb'
    have l5 : c.length = 8 := blkS_w 5 ps hP c hc
    rw [hd1, he1]
    simp only [List.headD_cons, List.length_append, l1, l2, l3, l4, l5, List.length_singleton]
  have hbb : (hbB n1 n2 n3 n4 n5 la).size = 65 := by
    rw [← bl_len, bl_hbB]; unfold hbL; simp [binL_len]
  rw [hmB, hmE, hdS] at HM
  have HM' : Hid (∀ w : World, s.size ≤ 140737488351232 → Calls Try.prog 23 #[.string s, .agg #[.int .i64 n1, .int .i64 n2, .int .i64 n3, .int .i64 n4, .int .i64 n5, .bool la]] w fun e w' => e = .returned (.tuple #[.bool (ps.all (ptM · ⟨n1, n2, n3, n4, n5, la⟩)), .int .i64 0]) ∧ Below w.heap.size w w') := HM
  have hb2 : bl (hbB n1 n2 n3 n4 n5 la) = hbL ⟨n1, n2, n3, n4, n5, la⟩ := bl_hbB n1 n2 n3 n4 n5 la
  rw [← hb2] at hcnt
  have HC : Hid ((cubS ps).countP (fun c => fitL c (bl (hbB n1 n2 n3 n4 n5 la))) = if ps.all (ptM · ⟨n1, n2, n3, n4, n5, la⟩) then 1 else 0) := hcnt
  have HLn : Hid ((cubS ps).length = nS ps) := hlen
  have HCW : Hid (∀ b ∈ cubS ps, b.length = 65) := hcw
  have HCE : Hid (cbE s = if nS ps ≤ 256 then 0 else 4) := hce
  have HCL : Hid (cbL s = if nS ps ≤ 256 then cubS ps else []) := hcl
  have hbn := bits_any n1 n2 n3 n4 n5 la
  have HBN : Hid (∀ w : World, n1 ≤ 65535 → n2 ≤ 65535 → n3 ≤ 65535 → n4 ≤ 65535 → n5 ≤ 65535 → Calls Try.prog 69 #[.agg #[.int .i64 n1, .int .i64 n2, .int .i64 n3, .int .i64 n4, .int .i64 n5, .bool la]] w fun e w' => e = .returned (.string (hbB n1 n2 n3 n4 n5 la)) ∧ Below w.heap.size w w') := hbn
  obtain ⟨b3, b4, b5⟩ := lens ps
  have hnb : nS ps ≤ 4294967296 := by unfold nS; exact (mul_bd b3 b4 b5).2
  clear hmB hmE HM hcnt hce hcl hlen hcw hbn hb2 hsm hdS hd hR b3 b4 b5 hh
  generalize ps.all (ptM · ⟨n1, n2, n3, n4, n5, la⟩) = M at *
  generalize hbB n1 n2 n3 n4 n5 la = HBB at *
  generalize nS ps = N at *
  generalize cubS ps = CB at *
  go_enter Try.func40, Try.ntmps40
  go_wp2_with fail
  refine (flowCount_any s _ hs).mono ?_
  rintro e w1 ⟨rfl, hb1⟩
  rw [hE, hct]
  obtain ⟨a0, a1, a2, a3, a4, a5, az⟩ := cells_six hb1
  go_wp2_with fail
  refine (HM'.out _ hs).mono ?_
  rintro e w2 ⟨rfl, hb2⟩
  have g2 : Below (w.alloc (.cells #[.int .i64 n1, .int .i64 n2, .int .i64 n3, .int .i64 n4, .int .i64 n5, .bool la] 44)).heap.size (w.alloc (.cells #[.int .i64 n1, .int .i64 n2, .int .i64 n3, .int .i64 n4, .int .i64 n5, .bool la] 44)) w2 := hb1.trans (hb2.mono hb1.size)
  clear a0 a1 a2 a3 a4 a5 az
  go_wp2_with fail
  refine (flowCubes_any s _ hs).mono ?_
  rintro e w3 ⟨⟨vc, L, rfl, hr, hl⟩, hb3⟩
  obtain ⟨oc, cc, rfl⟩ := ownsRow_shape hr
  have g3 : Below (w.alloc (.cells #[.int .i64 n1, .int .i64 n2, .int .i64 n3, .int .i64 n4, .int .i64 n5, .bool la] 44)).heap.size (w.alloc (.cells #[.int .i64 n1, .int .i64 n2, .int .i64 n3, .int .i64 n4, .int .i64 n5, .bool la] 44)) w3 := g2.trans (hb3.mono g2.size)
  obtain ⟨a0, a1, a2, a3, a4, a5, az⟩ := cells_six g3
  rw [HCE.out]
  rw [HCL.out] at hl
  by_cases h256 : N ≤ 256
  · rw [if_pos h256]
    rw [if_pos h256] at hl
    have hLN : L.length = N := by rw [← HLn.out, ← hl, List.length_map]
    have HL : Hid (L.map bl = CB) := hl
    have hin := hr.reads
    have hsz : Hid (∀ i (hi : i < L.length), L[i].size = 65) := fun i hi => by
      rw [← bl_len]
      refine HCW.out _ ?_
      rw [← hl]
      exact List.mem_map_of_mem (List.getElem_mem hi)
    have hn1 : (N : Int) ≤ 256 := by omega
    have hLe : ((L.length : Int) == (N : Int)) = true := by rw [hLN]; simp
    have HLN : Hid (L.length = N) := hLN
    clear hl hLN
    go_wp2_with fail
    refine (HBN.out _ h1 h2 (by omega) h4 (by omega)).mono ?_
    rintro e w4 ⟨rfl, hb4⟩
    have g4 : Below w.heap.size w w4 := (below_first g3).trans (hb4.mono (by omega))
    have hin4 := hin.below hb4
    go_wp2_with fail
    go_loopw [12, 13] (fun f x wr => ∃ i n : Nat, x = .int .i64 i ∧ f = .int .i64 (cntF L HBB i) ∧ i ≤ N ∧ wr = w4.drewN n) (fun _ x _ => N - (intOf x).toNat)
    case atStart => exact ⟨0, 0, rfl, by simp [cntF], Nat.zero_le _, rfl⟩
    case round =>
      obtain ⟨i, n, rfl, rfl, hi, rfl⟩ := hrel
      have hcl := cntF_le L HBB i
      by_cases hlt : i < N
      · have hil : i < L.length := by rw [HLN.out]; exact hlt
        obtain ⟨g, rfl, hcell⟩ := hin4 i hil
        have hst := cntF_step L HBB i hil
        have hz := hsz.out i hil
        have i1 : (i : Int) < (L.length : Int) := by omega
        have HT : Hid (cntF L HBB (i + 1) = cntF L HBB i + (if fitL (bl L[i]) (bl HBB) then 1 else 0)) := hst
        clear hst
        generalize L[i] = c at *
        generalize cntF L HBB i = f at *
        cases hf : fitL (bl c) (bl HBB)
        · rw [hf] at HT
          go_wp2_with (go_at_call 70; refine (fits_any c HBB _ (by omega) (by omega)).mono ?_; rintro e w5 ⟨rfl, n5', rfl⟩; rw [hf])
          go_roundw
          case rel => exact ⟨i + 1, _, by go_num, by rw [HT.out]; simp, by omega, rfl⟩
          case measure => simp [intOf]; omega
        · rw [hf] at HT
          go_wp2_with (go_at_call 70; refine (fits_any c HBB _ (by omega) (by omega)).mono ?_; rintro e w5 ⟨rfl, n5', rfl⟩; rw [hf])
          go_roundw
          case rel => exact ⟨i + 1, _, by go_num, by rw [HT.out]; go_num, by omega, rfl⟩
          case measure => simp [intOf]; omega
      · have hiN : i = N := by omega
        have hfin : cntF L HBB i = if M then 1 else 0 := by
          rw [hiN, ← HLN.out, cntF_all L HBB CB HL.out]
          exact HC.out
        rw [hfin]
        clear hfin hcl
        cases M
        · go_wp2
          go_ret
          exact ⟨rfl, below_drewN g4 n⟩
        · go_wp2
          go_ret
          exact ⟨rfl, below_drewN g4 n⟩
  · rw [if_neg h256]
    rw [if_neg h256] at hl
    have hL : L = [] := by simpa using hl
    subst hL
    clear hl hr
    have hn1 : (256 : Int) < (N : Int) := by omega
    go_wp2
    go_ret
    exact ⟨by simp, below_first g3⟩
end Go.Proofs.Ytgkiknfpcbcnnaa

namespace Go.Proofs.Ytgkiknfpcbcnnaa
open Go.RowKit
set_option maxRecDepth 20000

theorem IntsAt.below0 {w w' : World} {ao : Option Addr} {n : Nat} (h : IntsAt w ao n) (hb : Below w.heap.size w w') : IntsAt w' ao n := by
  intro i hi
  obtain ⟨b, off, z, e, hc, h1, h2⟩ := h i hi
  have hlt := World.block_lt_of_cell? w _ hc
  exact ⟨b, off, z, e, by rw [hb.cell hlt]; exact hc, h1, h2⟩

/-- While a header is made: the maker, the header so far, the place of the answer. -/
structure HdSt (w w' : World) (ao : Option Addr) (n cap : Nat) (c0 c1 c2 c3 c4 c5 : Value) : Prop where
  mkr : Mk w' (w.heap.size + 1) ao n cap
  row : w'.heap[w.heap.size + 1 + 1]? = some (.cells #[c0, c1, c2, c3, c4, c5] 44 (0, 0))
  res : w'.heap[w.heap.size]? = some (.cells #[.int .i64 0, .int .i64 0, .int .i64 0, .int .i64 0, .int .i64 0, .bool false] 44 (0, 0))
  bel : Below w.heap.size w w'

theorem HdSt.pick {w w' w2 : World} {ao : Option Addr} {n cap : Nat} {c0 c1 c2 c3 c4 c5 : Value} (h : HdSt w w' ao n cap c0 c1 c2 c3 c4 c5) (hm : Mk w2 (w.heap.size + 1) ao n cap) (hg : w'.grownBy w2 (some (w.heap.size + 1))) : HdSt w w2 ao n cap c0 c1 c2 c3 c4 c5 :=
  ⟨hm, by rw [hg.block _ (lt_of_block h.row) (by simp)]; exact h.row, by rw [hg.block _ (lt_of_block h.res) (by simp)]; exact h.res, Mk.step h.bel h.bel.size (by omega) hg⟩

theorem HdSt.set {w w' : World} {ao : Option Addr} {n cap : Nat} {c0 c1 c2 c3 c4 c5 : Value} (h : HdSt w w' ao n cap c0 c1 c2 c3 c4 c5) (k : Nat) (u : Value) {d0 d1 d2 d3 d4 d5 : Value} (he : (#[c0, c1, c2, c3, c4, c5] : Array Value).setIfInBounds k u = #[d0, d1, d2, d3, d4, d5]) : HdSt w (w'.setCell ⟨w.heap.size + 1 + 1, k, none⟩ u) ao n cap d0 d1 d2 d3 d4 d5 :=
  ⟨Mk.row h.mkr (grownBy_setCell _ _ _ _) (fun k hk => by simp at hk; omega), by rw [setCell_heap h.row, he], by rw [Below.heap_setCell _ _ _ _ (by show _ ≠ _; simp; omega)]; exact h.res, h.bel.setCell (by show _ ≤ w.heap.size + 1 + 1; omega) _⟩

theorem HdSt.cells {w w' : World} {ao : Option Addr} {n cap : Nat} {c0 c1 c2 c3 c4 c5 : Value} (h : HdSt w w' ao n cap c0 c1 c2 c3 c4 c5) :
    w'.cell? ⟨w.heap.size + 1 + 1, 0, none⟩ = some c0 ∧ w'.cell? ⟨w.heap.size + 1 + 1, 1, none⟩ = some c1 ∧ w'.cell? ⟨w.heap.size + 1 + 1, 2, none⟩ = some c2 ∧ w'.cell? ⟨w.heap.size + 1 + 1, 3, none⟩ = some c3 ∧ w'.cell? ⟨w.heap.size + 1 + 1, 4, none⟩ = some c4 ∧ w'.cell? ⟨w.heap.size + 1 + 1, 5, none⟩ = some c5 ∧ (∀ o, w'.frozen? ⟨w.heap.size + 1 + 1, o, none⟩ = false) := by
  have hr := h.row
  refine ⟨?_, ?_, ?_, ?_, ?_, ?_, fun o => ?_⟩
  all_goals simp [World.cell?, World.frozen?, hr]

theorem HdSt.resCells {w w' : World} {ao : Option Addr} {n cap : Nat} {c0 c1 c2 c3 c4 c5 : Value} (h : HdSt w w' ao n cap c0 c1 c2 c3 c4 c5) :
    w'.cell? ⟨w.heap.size, 0, none⟩ = some (.int .i64 0) ∧ w'.cell? ⟨w.heap.size, 1, none⟩ = some (.int .i64 0) ∧ w'.cell? ⟨w.heap.size, 2, none⟩ = some (.int .i64 0) ∧ w'.cell? ⟨w.heap.size, 3, none⟩ = some (.int .i64 0) ∧ w'.cell? ⟨w.heap.size, 4, none⟩ = some (.int .i64 0) ∧ w'.cell? ⟨w.heap.size, 5, none⟩ = some (.bool false) ∧ (∀ o, w'.frozen? ⟨w.heap.size, o, none⟩ = false) := by
  have hr := h.res
  refine ⟨?_, ?_, ?_, ?_, ?_, ?_, fun o => ?_⟩
  all_goals simp [World.cell?, World.frozen?, hr]

set_option maxHeartbeats 1000000 in
theorem header_any (ao : Option Addr) (n cap : Nat) (w : World) (hn : n ≤ 9223372036854775807) (ha : IntsAt w ao n) :
    Calls Try.prog 39 #[.slice ao n cap] w fun e w' => (∃ (n1 n2 n3 n4 n5 : Nat) (la : Bool), e = .returned (.agg #[.int .i64 n1, .int .i64 n2, .int .i64 n3, .int .i64 n4, .int .i64 n5, .bool la]) ∧ n1 ≤ 65535 ∧ n2 ≤ 65535 ∧ n3 ≤ 255 ∧ n4 ≤ 65535 ∧ n5 ≤ 255) ∧ Below w.heap.size w w' := by
  have h0 : HdSt w (((w.alloc (.cells #[.int .i64 0, .int .i64 0, .int .i64 0, .int .i64 0, .int .i64 0, .bool false] 44)).alloc (.cells #[.slice ao n cap, .int .i64 0] 112)).alloc (.cells #[.int .i64 0, .int .i64 0, .int .i64 0, .int .i64 0, .int .i64 0, .bool false] 44)) ao n cap (.int .i64 0) (.int .i64 0) (.int .i64 0) (.int .i64 0) (.int .i64 0) (.bool false) := by
    have hm := Mk.made (w := w.alloc (.cells #[.int .i64 0, .int .i64 0, .int .i64 0, .int .i64 0, .int .i64 0, .bool false] 44)) (cap := cap) (IntsAt.below0 ha (below_alloc _ _)) hn
    simp only [World.size_alloc] at hm
    refine ⟨hm.below (below_alloc _ _), ?_, ?_, ?_⟩
    · have := heap_alloc_new ((w.alloc (.cells #[.int .i64 0, .int .i64 0, .int .i64 0, .int .i64 0, .int .i64 0, .bool false] 44)).alloc (.cells #[.slice ao n cap, .int .i64 0] 112)) (.cells #[.int .i64 0, .int .i64 0, .int .i64 0, .int .i64 0, .int .i64 0, .bool false] 44)
      simpa using this
    · have := ((below_alloc _ (.cells #[.slice ao n cap, .int .i64 0] 112)).alloc (by simp) (.cells #[.int .i64 0, .int .i64 0, .int .i64 0, .int .i64 0, .int .i64 0, .bool false] 44)).block w.heap.size (w := w.alloc (.cells #[.int .i64 0, .int .i64 0, .int .i64 0, .int .i64 0, .int .i64 0, .bool false] 44)) (by simp)
      rw [this]
      exact heap_alloc_new w _
    · exact ((below_alloc _ _).alloc (by simp) _).alloc (by simp; omega) _
  go_enter Try.func39, Try.ntmps39
  go_wp2_with fail
  refine (pickM_any (w.heap.size + 1) ao n cap 65536 _ (by decide) (by decide) h0.mkr).mono ?_
  rintro e w1 ⟨k1, rfl, kl1, ku1, hm1, hg1⟩
  have p1 := h0.pick hm1 hg1
  have h1 := p1.set 0 (.int .i64 k1) rfl
  obtain ⟨x0, x1, x2, x3, x4, x5, xf⟩ := p1.cells
  have xz := lt_of_block p1.row
  clear hm1 hg1 p1 h0
  go_wp2_with fail
  refine (pickM_any (w.heap.size + 1) ao n cap 65536 _ (by decide) (by decide) h1.mkr).mono ?_
  rintro e w2 ⟨k2, rfl, kl2, ku2, hm2, hg2⟩
  have p2 := h1.pick hm2 hg2
  have h2 := p2.set 1 (.int .i64 k2) rfl
  obtain ⟨x0, x1, x2, x3, x4, x5, xf⟩ := p2.cells
  have xz := lt_of_block p2.row
  clear hm2 hg2 p2 h1
  go_wp2_with fail
  refine (pickM_any (w.heap.size + 1) ao n cap 256 _ (by decide) (by decide) h2.mkr).mono ?_
  rintro e w3 ⟨k3, rfl, kl3, ku3, hm3, hg3⟩
  have p3 := h2.pick hm3 hg3
  have h3 := p3.set 2 (.int .i64 k3) rfl
  obtain ⟨x0, x1, x2, x3, x4, x5, xf⟩ := p3.cells
  have xz := lt_of_block p3.row
  clear hm3 hg3 p3 h2
  go_wp2_with fail
  refine (pickM_any (w.heap.size + 1) ao n cap 65536 _ (by decide) (by decide) h3.mkr).mono ?_
  rintro e w4 ⟨k4, rfl, kl4, ku4, hm4, hg4⟩
  have p4 := h3.pick hm4 hg4
  have h4 := p4.set 3 (.int .i64 k4) rfl
  obtain ⟨x0, x1, x2, x3, x4, x5, xf⟩ := p4.cells
  have xz := lt_of_block p4.row
  clear hm4 hg4 p4 h3
  go_wp2_with fail
  refine (pickM_any (w.heap.size + 1) ao n cap 256 _ (by decide) (by decide) h4.mkr).mono ?_
  rintro e w5 ⟨k5, rfl, kl5, ku5, hm5, hg5⟩
  have p5 := h4.pick hm5 hg5
  have h5 := p5.set 4 (.int .i64 k5) rfl
  obtain ⟨x0, x1, x2, x3, x4, x5, xf⟩ := p5.cells
  have xz := lt_of_block p5.row
  clear hm5 hg5 p5 h4
  go_wp2_with fail
  refine (pickM_any (w.heap.size + 1) ao n cap 2 _ (by decide) (by decide) h5.mkr).mono ?_
  rintro e w6 ⟨k6, rfl, kl6, ku6, hm6, hg6⟩
  have p6 := h5.pick hm6 hg6
  have h6 := p6.set 5 (.bool (k6 == 1)) rfl
  obtain ⟨x0, x1, x2, x3, x4, x5, xf⟩ := p6.cells
  obtain ⟨r0, r1, r2, r3, r4, r5, rf⟩ := p6.resCells
  have xz := lt_of_block p6.row
  have rz := lt_of_block p6.res
  clear hm6 hg6 h5
  obtain ⟨m1, rfl⟩ := Int.eq_ofNat_of_zero_le kl1
  obtain ⟨m2, rfl⟩ := Int.eq_ofNat_of_zero_le kl2
  obtain ⟨m3, rfl⟩ := Int.eq_ofNat_of_zero_le kl3
  obtain ⟨m4, rfl⟩ := Int.eq_ofNat_of_zero_le kl4
  obtain ⟨m5, rfl⟩ := Int.eq_ofNat_of_zero_le kl5
  have hbel := h6.bel
  clear p6 h6
  go_wp2
  refine bodyPost_ret (v := .agg #[.int .i64 m1, .int .i64 m2, .int .i64 m3, .int .i64 m4, .int .i64 m5, .bool (k6 == 1)]) (by simp [results, Try.results39, go_sem, r0, r1, r2, r3, r4, r5]) rfl ⟨⟨m1, m2, m3, m4, m5, (k6 == 1), rfl, by omega, by omega, by omega, by omega, by omega⟩, ?_⟩
  exact (((((hbel.setCell (Nat.le_refl _) _).setCell (Nat.le_refl _) _).setCell (Nat.le_refl _) _).setCell (Nat.le_refl _) _).setCell (Nat.le_refl _) _).setCell (Nat.le_refl _) _
end Go.Proofs.Ytgkiknfpcbcnnaa

namespace Go.Proofs.Ytgkiknfpcbcnnaa
open Go.RowKit
set_option maxRecDepth 20000

def ad : ByteArray := ⟨#[1, 0]⟩
def adP : List Pt := [⟨1, 0, 0, []⟩]
theorem ad_isR : isR adP = true := by decide
theorem ad_dec : decS ad = some adP := by
  have e : ad = wParts adP := all_dst
  rw [e]; exact decS_complete adP ad_isR

theorem ad_match (n1 n2 n3 n4 n5 : Nat) (la : Bool) (h1 : n1 ≤ 65535) (h2 : n2 ≤ 65535) (h3 : n3 ≤ 255) (h4 : n4 ≤ 65535) (h5 : n5 ≤ 255) : mB ad ⟨n1, n2, n3, n4, n5, la⟩ = true ∧ mE ad ⟨n1, n2, n3, n4, n5, la⟩ = 0 := by
  have hsm : (decS ad).isSome = true := by rw [ad_dec]; rfl
  have hdS : dS ad = adP := by unfold dS; rw [ad_dec]; rfl
  have hh : hdOK ⟨n1, n2, n3, n4, n5, la⟩ = true := by
    simp only [hdOK, Bool.and_eq_true]
    exact ⟨⟨⟨⟨isN_true (by omega) (by omega), isN_true (by omega) (by omega)⟩, isN_true (by omega) (by omega)⟩, isN_true (by omega) (by omega)⟩, isN_true (by omega) (by omega)⟩
  obtain ⟨a, b, _⟩ := mB_some hsm hh
  refine ⟨?_, b⟩
  rw [a, hdS]
  show (ptM ⟨1, 0, 0, []⟩ _ && true) = true
  have hl : lies (n1 : Int) 0 0 = true := by
    have := lies_nat n1 0 0 (by omega)
    have e : lies (n1 : Int) 0 0 = decide (n1 / 2 ^ (16 - 0) = 0 / 2 ^ (16 - 0)) := this
    rw [e]
    have : n1 / 2 ^ (16 - 0) = 0 := Nat.div_eq_of_lt (by show n1 < 65536; omega)
    rw [this]; rfl
  unfold ptM
  show ((true && lies (n1 : Int) 0 0) && true) = true
  rw [hl]; rfl

theorem ad_count : ctC ad = 1 ∧ eS ad = 0 := by
  have hsm : (decS ad).isSome = true := by rw [ad_dec]; rfl
  have hdS : dS ad = adP := by unfold dS; rw [ad_dec]; rfl
  refine ⟨?_, eS_yes hsm⟩
  unfold ctC
  rw [hsm, hdS]
  rfl

theorem made_b (ao : Option Addr) (n cap : Nat) (w W0 : World) (hn : n ≤ 9223372036854775807) (h : IntsAt W0 ao n) (hb : Below W0.heap.size W0 w) :
    Calls Try.prog 37 #[.slice ao n cap] w fun e w' => ∃ ps : List Pt, e = .returned (.string (wParts ps)) ∧ isR ps = true ∧ Below W0.heap.size W0 w' :=
  (made_any ao n cap w hn (h.below0 hb)).mono fun _ _ ⟨ps, h1, h2, h3⟩ => ⟨ps, h1, h2, hb.trans (h3.mono hb.size)⟩

theorem wParts_sm {ps : List Pt} (h : isR ps = true) : (wParts ps).size ≤ 140737488351232 := by
  have h5 := (isR_small h).1
  unfold isR at h
  simp only [Bool.and_eq_true] at h
  have := wParts_size ps 0 h.1
  omega

theorem once_b (ps : List Pt) (hR : isR ps = true) (n1 n2 n3 n4 n5 : Nat) (la : Bool) (w W0 : World) (h1 : n1 ≤ 65535) (h2 : n2 ≤ 65535) (h3 : n3 ≤ 255) (h4 : n4 ≤ 65535) (h5 : n5 ≤ 255) (hb : Below W0.heap.size W0 w) :
    Calls Try.prog 40 #[.string (wParts ps), .agg #[.int .i64 n1, .int .i64 n2, .int .i64 n3, .int .i64 n4, .int .i64 n5, .bool la]] w fun e w' => e = .returned (.bool true) ∧ Below W0.heap.size W0 w' :=
  (once_any ps hR (wParts ps) (decS_complete ps hR) (wParts_sm hR) n1 n2 n3 n4 n5 la w h1 h2 h3 h4 h5).mono fun _ _ h => ⟨h.1, hb.trans (h.2.mono hb.size)⟩

set_option maxHeartbeats 1000000 in
theorem onceLaw_any (ao bo : Option Addr) (n m ca cb : Nat) (w : World) (hn : n ≤ 9223372036854775807) (hm : m ≤ 9223372036854775807) (ha : IntsAt w ao n) (hb : IntsAt w bo m) :
    Calls Try.prog 12 #[.slice ao n ca, .slice bo m cb] w fun e w' => e = .returned (.bool true) ∧ Below w.heap.size w w' := by
  go_enter Try.func12, Try.ntmps12
  go_wp2_with fail
  refine (header_any bo m cb _ hm hb).mono ?_
  rintro e w1 ⟨⟨n1, n2, n3, n4, n5, la, rfl, l1, l2, l3, l4, l5⟩, hb1⟩
  obtain ⟨mb, me⟩ := ad_match n1 n2 n3 n4 n5 la l1 l2 l3 l4 l5
  have z1 := hb1.size
  have hM := match_any ad ⟨n1, n2, n3, n4, n5, la⟩ (w1.alloc (.cells #[.int .i64 n1, .int .i64 n2, .int .i64 n3, .int .i64 n4, .int .i64 n5, .bool la] 44)) (by decide)
  rw [mb, me] at hM
  have hO := once_any adP ad_isR ad ad_dec (by decide) n1 n2 n3 n4 n5 la
  have hC := flowCount_any ad
  rw [ad_count.1, ad_count.2] at hC
  have HM : Hid (Calls Try.prog 23 #[.string ⟨#[1, 0]⟩, .agg #[.int .i64 n1, .int .i64 n2, .int .i64 n3, .int .i64 n4, .int .i64 n5, .bool la]] (w1.alloc (.cells #[.int .i64 n1, .int .i64 n2, .int .i64 n3, .int .i64 n4, .int .i64 n5, .bool la] 44)) fun e w' => e = .returned (.tuple #[.bool true, .int .i64 0]) ∧ Below (w1.alloc (.cells #[.int .i64 n1, .int .i64 n2, .int .i64 n3, .int .i64 n4, .int .i64 n5, .bool la] 44)).heap.size (w1.alloc (.cells #[.int .i64 n1, .int .i64 n2, .int .i64 n3, .int .i64 n4, .int .i64 n5, .bool la] 44)) w') := hM
  have HO : Hid (∀ w : World, Calls Try.prog 40 #[.string ⟨#[1, 0]⟩, .agg #[.int .i64 n1, .int .i64 n2, .int .i64 n3, .int .i64 n4, .int .i64 n5, .bool la]] w fun e w' => e = .returned (.bool true) ∧ Below w.heap.size w w') := fun w => hO w l1 l2 l3 l4 l5
  have HCt : Hid (∀ w : World, Calls Try.prog 27 #[.string ⟨#[1, 0]⟩] w fun e w' => e = .returned (.tuple #[.int .i64 1, .int .i64 0]) ∧ Below w.heap.size w w') := fun w => hC w (by decide)
  clear hM hO hC mb me
  have ia := ha.below0 hb1
  go_wp2_with fail
  refine HM.out.mono ?_
  rintro e w2 ⟨rfl, hb2⟩
  go_wp2_with fail
  refine (HCt.out _).mono ?_
  rintro e w3 ⟨rfl, hb3⟩
  have g3 : Below (w1.alloc (.cells #[.int .i64 n1, .int .i64 n2, .int .i64 n3, .int .i64 n4, .int .i64 n5, .bool la] 44)).heap.size (w1.alloc (.cells #[.int .i64 n1, .int .i64 n2, .int .i64 n3, .int .i64 n4, .int .i64 n5, .bool la] 44)) w3 := hb2.trans (hb3.mono hb2.size)
  obtain ⟨a0, a1, a2, a3, a4, a5, az⟩ := cells_six g3
  go_wp2_with fail
  refine (HO.out _).mono ?_
  rintro e w4 ⟨rfl, hb4⟩
  have g4 : Below (w1.alloc (.cells #[.int .i64 n1, .int .i64 n2, .int .i64 n3, .int .i64 n4, .int .i64 n5, .bool la] 44)).heap.size (w1.alloc (.cells #[.int .i64 n1, .int .i64 n2, .int .i64 n3, .int .i64 n4, .int .i64 n5, .bool la] 44)) w4 := g3.trans (hb4.mono g3.size)
  clear a0 a1 a2 a3 a4 a5 az
  obtain ⟨a0, a1, a2, a3, a4, a5, az⟩ := cells_six g4
  have ia4 := ia.below0 (below_first g4)
  have gw : Below w.heap.size w w4 := hb1.trans ((below_first g4).mono z1)
  have HS : Hid (∀ w' : World, Below w4.heap.size w4 w' → w'.cell? ⟨w1.heap.size, 0, none⟩ = some (.int .i64 n1) ∧ w'.cell? ⟨w1.heap.size, 1, none⟩ = some (.int .i64 n2) ∧ w'.cell? ⟨w1.heap.size, 2, none⟩ = some (.int .i64 n3) ∧ w'.cell? ⟨w1.heap.size, 3, none⟩ = some (.int .i64 n4) ∧ w'.cell? ⟨w1.heap.size, 4, none⟩ = some (.int .i64 n5) ∧ w'.cell? ⟨w1.heap.size, 5, none⟩ = some (.bool la) ∧ Below w4.heap.size w4 w') := fun w' hx =>
    ⟨(hx.cell az).trans a0, (hx.cell az).trans a1, (hx.cell az).trans a2, (hx.cell az).trans a3, (hx.cell az).trans a4, (hx.cell az).trans a5, hx⟩
  have zz := gw.size
  clear a0 a1 a2 a3 a4 a5 g3 g4 ia HM HO HCt
  go_wp2_with fail
  go_region_held3 (fun w' => w'.cell? ⟨w1.heap.size, 0, none⟩ = some (.int .i64 n1) ∧ w'.cell? ⟨w1.heap.size, 1, none⟩ = some (.int .i64 n2) ∧ w'.cell? ⟨w1.heap.size, 2, none⟩ = some (.int .i64 n3) ∧ w'.cell? ⟨w1.heap.size, 3, none⟩ = some (.int .i64 n4) ∧ w'.cell? ⟨w1.heap.size, 4, none⟩ = some (.int .i64 n5) ∧ w'.cell? ⟨w1.heap.size, 5, none⟩ = some (.bool la) ∧ Below w4.heap.size w4 w')
    (first | exact HS.out _ (by assumption) | exact HS.out _ (Below.refl _ _).drew)
    (first
      | (go_at_call 37; refine (made_b _ _ _ _ w4 hn ia4 (by go_split_ands; assumption)).mono ?_; rintro e w5 ⟨ps, rfl, hR, hb5⟩)
      | (go_at_call 40; refine (once_b _ hR _ _ _ _ _ _ _ w4 l1 l2 l3 l4 l5 (by go_split_ands; assumption)).mono ?_; rintro e w6 ⟨rfl, hb6⟩))
  go_wp2
  go_ret
  exact ⟨rfl, gw.trans (hb6.mono zz)⟩
end Go.Proofs.Ytgkiknfpcbcnnaa
