import Derived.Test.YtgkiknfpcbcnnabGreatGs
import Derived.Test.YtgkiknfpcbcnnabGreatCov1
namespace Go.Proofs.YtgkiknfpcbcnnabGreat
open Go.RowKit
set_option maxRecDepth 20000

/-- How many of the first i texts fit. -/
def cntF (L : List ByteArray) (b : ByteArray) (i : Nat) : Nat := (L.take i).countP (fun c => fitL (bl c) (bl b))
theorem cntF_step (L : List ByteArray) (b : ByteArray) (i : Nat) (h : i < L.length) : cntF L b (i + 1) = cntF L b i + (if fitL (bl L[i]) (bl b) then 1 else 0) := by
  unfold cntF
  rw [List.take_succ_eq_append_getElem h, List.countP_append]
  cases hx : fitL (bl L[i]) (bl b) <;> simp [hx]
theorem cntF_le (L : List ByteArray) (b : ByteArray) (i : Nat) : cntF L b i ≤ i := by
  unfold cntF
  have := List.countP_le_length (p := fun c => fitL (bl c) (bl b)) (l := L.take i)
  have h2 : (L.take i).length ≤ i := by rw [List.length_take]; omega
  omega
theorem cntF_all (L : List ByteArray) (b : ByteArray) (M : List (List UInt8)) (h : L.map bl = M) : cntF L b L.length = M.countP (fun c => fitL c (bl b)) := by
  unfold cntF
  rw [List.take_length, ← h, List.countP_map]
  rfl

end Go.Proofs.YtgkiknfpcbcnnabGreat

namespace Go.Proofs.YtgkiknfpcbcnnabGreat
open Go.RowKit
set_option maxRecDepth 20000

theorem IntsAt.below0 {w w' : World} {ao : Option Addr} {n : Nat} (h : IntsAt w ao n) (hb : Below w.heap.size w w') : IntsAt w' ao n := by
  intro i hi
  obtain ⟨b, off, z, e, hc, h1, h2⟩ := h i hi
  have hlt := World.block_lt_of_cell? w _ hc
  exact ⟨b, off, z, e, by rw [hb.cell hlt]; exact hc, h1, h2⟩

/-- While a header is made: the maker, the header so far, the place of the answer. -/
structure HdSt (w w' : World) (ao : Option Addr) (n cap : Nat) (c0 c1 c2 c3 c4 c5 : Value) : Prop where
  mkr : Mk w' (w.heap.size + 1) ao n cap
  row : w'.heap[w.heap.size + 1 + 1]? = some (.cells #[c0, c1, c2, c3, c4, c5] 33 (0, 0))
  res : w'.heap[w.heap.size]? = some (.cells #[.int .i64 0, .int .i64 0, .int .i64 0, .int .i64 0, .int .i64 0, .bool false] 33 (0, 0))
  bel : Below w.heap.size w w'

theorem HdSt.pick {w w' w2 : World} {ao : Option Addr} {n cap : Nat} {c0 c1 c2 c3 c4 c5 : Value} (h : HdSt w w' ao n cap c0 c1 c2 c3 c4 c5) (hm : Mk w2 (w.heap.size + 1) ao n cap) (hg : w'.grownBy w2 (some (w.heap.size + 1))) : HdSt w w2 ao n cap c0 c1 c2 c3 c4 c5 :=
  ⟨hm, by rw [hg.block _ (lt_of_block h.row) (by simp)]; exact h.row, by rw [hg.block _ (lt_of_block h.res) (by simp)]; exact h.res, Mk.step h.bel h.bel.size (by omega) hg⟩

theorem HdSt.set {w w' : World} {ao : Option Addr} {n cap : Nat} {c0 c1 c2 c3 c4 c5 : Value} (h : HdSt w w' ao n cap c0 c1 c2 c3 c4 c5) (k : Nat) (u : Value) {d0 d1 d2 d3 d4 d5 : Value} (he : (#[c0, c1, c2, c3, c4, c5] : Array Value).setIfInBounds k u = #[d0, d1, d2, d3, d4, d5]) : HdSt w (w'.setCell ⟨w.heap.size + 1 + 1, k, none⟩ u) ao n cap d0 d1 d2 d3 d4 d5 :=
  ⟨Mk.row h.mkr (grownBy_setCell _ _ _ _) (fun k hk => by simp at hk; omega), by rw [setCell_heap h.row, he], by rw [Below.heap_setCell _ _ _ _ (by show _ ≠ _; simp; omega)]; exact h.res, h.bel.setCell (by show _ ≤ w.heap.size + 1 + 1; omega) _⟩

theorem HdSt.cells {w w' : World} {ao : Option Addr} {n cap : Nat} {c0 c1 c2 c3 c4 c5 : Value} (h : HdSt w w' ao n cap c0 c1 c2 c3 c4 c5) :
    w'.cell? ⟨w.heap.size + 1 + 1, 0, none⟩ = some c0 ∧ w'.cell? ⟨w.heap.size + 1 + 1, 1, none⟩ = some c1 ∧ w'.cell? ⟨w.heap.size + 1 + 1, 2, none⟩ = some c2 ∧ w'.cell? ⟨w.heap.size + 1 + 1, 3, none⟩ = some c3 ∧ w'.cell? ⟨w.heap.size + 1 + 1, 4, none⟩ = some c4 ∧ w'.cell? ⟨w.heap.size + 1 + 1, 5, none⟩ = some c5 ∧ (∀ o, w'.frozen? ⟨w.heap.size + 1 + 1, o, none⟩ = false) := by
  have hr := h.row
  refine ⟨?_, ?_, ?_, ?_, ?_, ?_, fun o => ?_⟩
  all_goals simp [World.cell?, World.frozen?, hr]

theorem HdSt.resCells {w w' : World} {ao : Option Addr} {n cap : Nat} {c0 c1 c2 c3 c4 c5 : Value} (h : HdSt w w' ao n cap c0 c1 c2 c3 c4 c5) :
    w'.cell? ⟨w.heap.size, 0, none⟩ = some (.int .i64 0) ∧ w'.cell? ⟨w.heap.size, 1, none⟩ = some (.int .i64 0) ∧ w'.cell? ⟨w.heap.size, 2, none⟩ = some (.int .i64 0) ∧ w'.cell? ⟨w.heap.size, 3, none⟩ = some (.int .i64 0) ∧ w'.cell? ⟨w.heap.size, 4, none⟩ = some (.int .i64 0) ∧ w'.cell? ⟨w.heap.size, 5, none⟩ = some (.bool false) ∧ (∀ o, w'.frozen? ⟨w.heap.size, o, none⟩ = false) := by
  have hr := h.res
  refine ⟨?_, ?_, ?_, ?_, ?_, ?_, fun o => ?_⟩
  all_goals simp [World.cell?, World.frozen?, hr]

set_option maxHeartbeats 1000000 in
theorem header_any (ao : Option Addr) (n cap : Nat) (w : World) (hn : n ≤ 9223372036854775807) (ha : IntsAt w ao n) :
    Calls Tryz.prog 17 #[.slice ao n cap] w fun e w' => (∃ (n1 n2 n3 n4 n5 : Nat) (la : Bool), e = .returned (.agg #[.int .i64 n1, .int .i64 n2, .int .i64 n3, .int .i64 n4, .int .i64 n5, .bool la]) ∧ n1 ≤ 65535 ∧ n2 ≤ 65535 ∧ n3 ≤ 255 ∧ n4 ≤ 65535 ∧ n5 ≤ 255) ∧ Below w.heap.size w w' := by
  have h0 : HdSt w (((w.alloc (.cells #[.int .i64 0, .int .i64 0, .int .i64 0, .int .i64 0, .int .i64 0, .bool false] 33)).alloc (.cells #[.slice ao n cap, .int .i64 0] 93)).alloc (.cells #[.int .i64 0, .int .i64 0, .int .i64 0, .int .i64 0, .int .i64 0, .bool false] 33)) ao n cap (.int .i64 0) (.int .i64 0) (.int .i64 0) (.int .i64 0) (.int .i64 0) (.bool false) := by
    have hm := Mk.made (w := w.alloc (.cells #[.int .i64 0, .int .i64 0, .int .i64 0, .int .i64 0, .int .i64 0, .bool false] 33)) (cap := cap) (IntsAt.below0 ha (below_alloc _ _)) hn
    simp only [World.size_alloc] at hm
    refine ⟨hm.below (below_alloc _ _), ?_, ?_, ?_⟩
    · have := heap_alloc_new ((w.alloc (.cells #[.int .i64 0, .int .i64 0, .int .i64 0, .int .i64 0, .int .i64 0, .bool false] 33)).alloc (.cells #[.slice ao n cap, .int .i64 0] 93)) (.cells #[.int .i64 0, .int .i64 0, .int .i64 0, .int .i64 0, .int .i64 0, .bool false] 33)
      simpa using this
    · have := ((below_alloc _ (.cells #[.slice ao n cap, .int .i64 0] 93)).alloc (by simp) (.cells #[.int .i64 0, .int .i64 0, .int .i64 0, .int .i64 0, .int .i64 0, .bool false] 33)).block w.heap.size (w := w.alloc (.cells #[.int .i64 0, .int .i64 0, .int .i64 0, .int .i64 0, .int .i64 0, .bool false] 33)) (by simp)
      rw [this]
      exact heap_alloc_new w _
    · exact ((below_alloc _ _).alloc (by simp) _).alloc (by simp; omega) _
  go_enter Tryz.func17, Tryz.ntmps17
  go_wp2_with fail
  refine (pickM_any (w.heap.size + 1) ao n cap 65536 _ (by decide) (by decide) h0.mkr).mono ?_
  rintro e w1 ⟨k1, rfl, kl1, ku1, hm1, hg1⟩
  have p1 := h0.pick hm1 hg1
  have h1 := p1.set 0 (.int .i64 k1) rfl
  obtain ⟨x0, x1, x2, x3, x4, x5, xf⟩ := p1.cells
  have xz := lt_of_block p1.row
  clear hm1 hg1 p1 h0
  go_wp2_with fail
  refine (pickM_any (w.heap.size + 1) ao n cap 65536 _ (by decide) (by decide) h1.mkr).mono ?_
  rintro e w2 ⟨k2, rfl, kl2, ku2, hm2, hg2⟩
  have p2 := h1.pick hm2 hg2
  have h2 := p2.set 1 (.int .i64 k2) rfl
  obtain ⟨x0, x1, x2, x3, x4, x5, xf⟩ := p2.cells
  have xz := lt_of_block p2.row
  clear hm2 hg2 p2 h1
  go_wp2_with fail
  refine (pickM_any (w.heap.size + 1) ao n cap 256 _ (by decide) (by decide) h2.mkr).mono ?_
  rintro e w3 ⟨k3, rfl, kl3, ku3, hm3, hg3⟩
  have p3 := h2.pick hm3 hg3
  have h3 := p3.set 2 (.int .i64 k3) rfl
  obtain ⟨x0, x1, x2, x3, x4, x5, xf⟩ := p3.cells
  have xz := lt_of_block p3.row
  clear hm3 hg3 p3 h2
  go_wp2_with fail
  refine (pickM_any (w.heap.size + 1) ao n cap 65536 _ (by decide) (by decide) h3.mkr).mono ?_
  rintro e w4 ⟨k4, rfl, kl4, ku4, hm4, hg4⟩
  have p4 := h3.pick hm4 hg4
  have h4 := p4.set 3 (.int .i64 k4) rfl
  obtain ⟨x0, x1, x2, x3, x4, x5, xf⟩ := p4.cells
  have xz := lt_of_block p4.row
  clear hm4 hg4 p4 h3
  go_wp2_with fail
  refine (pickM_any (w.heap.size + 1) ao n cap 256 _ (by decide) (by decide) h4.mkr).mono ?_
  rintro e w5 ⟨k5, rfl, kl5, ku5, hm5, hg5⟩
  have p5 := h4.pick hm5 hg5
  have h5 := p5.set 4 (.int .i64 k5) rfl
  obtain ⟨x0, x1, x2, x3, x4, x5, xf⟩ := p5.cells
  have xz := lt_of_block p5.row
  clear hm5 hg5 p5 h4
  go_wp2_with fail
  refine (pickM_any (w.heap.size + 1) ao n cap 2 _ (by decide) (by decide) h5.mkr).mono ?_
  rintro e w6 ⟨k6, rfl, kl6, ku6, hm6, hg6⟩
  have p6 := h5.pick hm6 hg6
  have h6 := p6.set 5 (.bool (k6 == 1)) rfl
  obtain ⟨x0, x1, x2, x3, x4, x5, xf⟩ := p6.cells
  obtain ⟨r0, r1, r2, r3, r4, r5, rf⟩ := p6.resCells
  have xz := lt_of_block p6.row
  have rz := lt_of_block p6.res
  clear hm6 hg6 h5
  obtain ⟨m1, rfl⟩ := Int.eq_ofNat_of_zero_le kl1
  obtain ⟨m2, rfl⟩ := Int.eq_ofNat_of_zero_le kl2
  obtain ⟨m3, rfl⟩ := Int.eq_ofNat_of_zero_le kl3
  obtain ⟨m4, rfl⟩ := Int.eq_ofNat_of_zero_le kl4
  obtain ⟨m5, rfl⟩ := Int.eq_ofNat_of_zero_le kl5
  have hbel := h6.bel
  clear p6 h6
  go_wp2
  refine bodyPost_ret (v := .agg #[.int .i64 m1, .int .i64 m2, .int .i64 m3, .int .i64 m4, .int .i64 m5, .bool (k6 == 1)]) (by simp [results, Tryz.results17, go_sem, r0, r1, r2, r3, r4, r5]) rfl ⟨⟨m1, m2, m3, m4, m5, (k6 == 1), rfl, by omega, by omega, by omega, by omega, by omega⟩, ?_⟩
  exact (((((hbel.setCell (Nat.le_refl _) _).setCell (Nat.le_refl _) _).setCell (Nat.le_refl _) _).setCell (Nat.le_refl _) _).setCell (Nat.le_refl _) _).setCell (Nat.le_refl _) _
end Go.Proofs.YtgkiknfpcbcnnabGreat

namespace Go.Proofs.YtgkiknfpcbcnnabGreat
open Go.RowKit
set_option maxRecDepth 20000

def ad : ByteArray := ⟨#[1, 0]⟩
def adP : List Pt := [⟨1, 0, 0, []⟩]
theorem ad_isR : isR adP = true := by decide
theorem ad_dec : decS ad = some adP := by
  have e : ad = wParts adP := all_dst
  rw [e]; exact decS_complete adP ad_isR

theorem ad_match (n1 n2 n3 n4 n5 : Nat) (la : Bool) (h1 : n1 ≤ 65535) (h2 : n2 ≤ 65535) (h3 : n3 ≤ 255) (h4 : n4 ≤ 65535) (h5 : n5 ≤ 255) : mB ad ⟨n1, n2, n3, n4, n5, la⟩ = true ∧ mE ad ⟨n1, n2, n3, n4, n5, la⟩ = 0 := by
  have hsm : (decS ad).isSome = true := by rw [ad_dec]; rfl
  have hdS : dS ad = adP := by unfold dS; rw [ad_dec]; rfl
  have hh : hdOK ⟨n1, n2, n3, n4, n5, la⟩ = true := by
    simp only [hdOK, Bool.and_eq_true]
    exact ⟨⟨⟨⟨isN_true (by omega) (by omega), isN_true (by omega) (by omega)⟩, isN_true (by omega) (by omega)⟩, isN_true (by omega) (by omega)⟩, isN_true (by omega) (by omega)⟩
  obtain ⟨a, b, _⟩ := mB_some hsm hh
  refine ⟨?_, b⟩
  rw [a, hdS]
  show (ptM ⟨1, 0, 0, []⟩ _ && true) = true
  have hl : lies (n1 : Int) 0 0 = true := by
    have := lies_nat n1 0 0 (by omega)
    have e : lies (n1 : Int) 0 0 = decide (n1 / 2 ^ (16 - 0) = 0 / 2 ^ (16 - 0)) := this
    rw [e]
    have : n1 / 2 ^ (16 - 0) = 0 := Nat.div_eq_of_lt (by show n1 < 65536; omega)
    rw [this]; rfl
  unfold ptM
  show ((true && lies (n1 : Int) 0 0) && true) = true
  rw [hl]; rfl

theorem ad_count : ctC ad = 1 ∧ eS ad = 0 := by
  have hsm : (decS ad).isSome = true := by rw [ad_dec]; rfl
  have hdS : dS ad = adP := by unfold dS; rw [ad_dec]; rfl
  refine ⟨?_, eS_yes hsm⟩
  unfold ctC
  rw [hsm, hdS]
  rfl

theorem made_b (ao : Option Addr) (n cap : Nat) (w W0 : World) (hn : n ≤ 9223372036854775807) (h : IntsAt W0 ao n) (hb : Below W0.heap.size W0 w) :
    Calls Tryz.prog 52 #[.slice ao n cap] w fun e w' => ∃ ps : List Pt, e = .returned (.string (wParts ps)) ∧ isR ps = true ∧ Below W0.heap.size W0 w' :=
  (made_any ao n cap w hn (h.below0 hb)).mono fun _ _ ⟨ps, h1, h2, h3⟩ => ⟨ps, h1, h2, hb.trans (h3.mono hb.size)⟩

theorem wParts_sm {ps : List Pt} (h : isR ps = true) : (wParts ps).size ≤ 140737488351232 := by
  have h5 := (isR_small h).1
  unfold isR at h
  simp only [Bool.and_eq_true] at h
  have := wParts_size ps 0 h.1
  omega

end Go.Proofs.YtgkiknfpcbcnnabGreat
