import Derived.Test.YtgkiknfpcbcnnaaCov1
namespace Go.Proofs.Ytgkiknfpcbcnnaa
open Go.RowKit
set_option maxRecDepth 20000

theorem cbL_small (s : ByteArray) {L : List ByteArray} (h : L.map bl = cbL s) : L.length ≤ 256 := by
  have := congrArg List.length h
  rw [List.length_map] at this
  rw [this]
  unfold cbL
  split
  · rename_i hh
    simp only [Bool.and_eq_true, decide_eq_true_eq] at hh
    rw [cubS_range, List.length_map, List.length_range]
    exact hh.2
  · simp

theorem StrIn.chg {w w' : World} {ao : Option Addr} {L : List ByteArray} {g B : Nat} (h : StrIn w ao L) (hw : w.heap.size ≤ B) (hg : B ≤ g) {w1 : World} (hb : Below w.heap.size w w1) (hc : Chg (fun b => b = g) w1 w') : StrIn w' ao L := by
  intro i hi
  obtain ⟨b, e, hcell⟩ := h i hi
  have hlt : b < w.heap.size := World.block_lt_of_cell? w _ hcell
  refine ⟨b, e, ?_⟩
  rw [hc.cell (a := ⟨b, i, none⟩) (by have := hb.size; show b < _; omega) (by show ¬ b = g; have : b < w.heap.size := hlt; omega), hb.cell hlt]
  exact hcell

set_option maxHeartbeats 1000000 in
theorem covers_any (s : ByteArray) (w : World) (hs : s.size ≤ 140737488351232) :
    Calls Try.prog 7 #[.string s] w fun e w' => e = .returned (.bool true) ∧ Below w.heap.size w w' := by
  have ne1 : (eS s == eS s) = true := by simp
  have ne2 : (cbE s == cbE s) = true := by simp
  have ne3 : ((ctC s : Int) == (ctC s : Int)) = true := by simp
  go_enter Try.func7, Try.ntmps7
  go_wp2_with fail
  refine (flowCount_any s _ hs).mono ?_
  rintro e w1 ⟨rfl, hb1⟩
  go_wp2_with fail
  refine (refCount_any s _ hs).mono ?_
  rintro e w2 ⟨rfl, hb2⟩
  go_wp2_with fail
  refine (refCubes_any s _ hs).mono ?_
  rintro e w3 ⟨⟨vw, L, rfl, hrw, hlw⟩, hb3⟩
  obtain ⟨ow, cw, rfl⟩ := ownsRow_shape hrw
  go_wp2_with fail
  refine (flowCubes_any s _ hs).mono ?_
  rintro e w4 ⟨⟨vl, L', rfl, hrl, hll⟩, hb4⟩
  obtain rfl : L' = L := map_bl_inj (hll.trans hlw.symm)
  obtain ⟨ol, cl, rfl⟩ := ownsRow_shape hrl
  have hL := cbL_small s hlw
  have inw := hrw.reads
  have inw4 := inw.below hb4
  have inl4 := hrl.reads
  have HW : Hid (L'.map bl = cbL s) := hlw
  clear hlw hll
  have s1 := hb1.size
  have s2 := hb2.size
  have s3 := hb3.size
  have s4 := hb4.size
  have hB4 : Below w.heap.size w w4 := hb1.trans ((hb2.trans ((hb3.trans (hb4.mono s3)).mono s2)).mono s1)
  go_wp2_with fail
  refine (sameTexts_eq L' ol ow cl cw _ (by omega) inl4 inw4).mono ?_
  rintro e w5 ⟨rfl, n5, rfl⟩
  rcases hrl.2 with ⟨hv, hnil⟩ | ⟨g, cap, cur, hv, hg, hh, hlc, hmx, hcs, _⟩
  · simp only [Value.slice.injEq] at hv
    obtain ⟨rfl, hz, rfl⟩ := hv
    have hE : L' = [] := List.length_eq_zero_iff.1 hz
    subst hE
    clear hz hnil hrl inl4
    have inw5 : StrIn (w4.drewN n5) ow [] := fun i hi => absurd hi (by simp)
    simp only [List.length_nil]
    go_wp2_with fail
    refine wp_loop_rounds 1 ?_
    rw [rounds_succ]
    go_wp2_with fail
    refine (flowCubes_any s _ hs).mono ?_
    rintro e w7 ⟨⟨vk, L2, rfl, hrk, hlk⟩, hb7⟩
    obtain rfl : L2 = [] := map_bl_inj (hlk.trans HW.out.symm)
    obtain ⟨ok, ck, rfl⟩ := ownsRow_shape hrk
    have hB7 : Below w.heap.size w w7 := (below_drewN hB4 n5).trans (hb7.mono (by show _ ≤ w4.heap.size; omega))
    simp only [List.length_nil]
    have C := sameTexts_eq [] ok ow ck cw w7 (by simp) (fun i hi => absurd hi (by simp)) (fun i hi => absurd hi (by simp))
    have C' : Hid (Calls Try.prog 31 #[.slice ok 0 ck, .slice ow 0 cw] w7 fun e w' => e = .returned (.bool true) ∧ ∃ n, w' = w7.drewN n) := C
    clear C hrk hlk
    go_wp2_with fail
    refine C'.out.mono ?_
    rintro e w8 ⟨rfl, n8, rfl⟩
    go_wp2_with fail
    refine wp_loop_rounds 1 ?_
    rw [rounds_succ]
    go_wp2
    go_ret
    exact ⟨by simp, below_drewN hB7 n8⟩
  · simp only [Value.slice.injEq] at hv
    obtain ⟨rfl, _, rfl⟩ := hv
    unfold maxLen at hmx
    have hm0 : MRow (w4.drewN n5) g cl 0 := ⟨cur, hh, by omega, fun k hk => absurd hk (by omega)⟩
    have hlc' : (L'.length : Int) ≤ (cl : Int) := by omega
    go_wp2_with fail
    go_loopw [13] (fun x wr => ∃ k : Nat, x = .int .i64 k ∧ k ≤ cl ∧ MRow wr g cl k ∧ Chg (fun b => b = g) (w4.drewN n5) wr) (fun x _ => cl - (intOf x).toNat)
    case atStart => exact ⟨0, rfl, Nat.zero_le _, hm0, Chg.refl _ _⟩
    case round =>
      obtain ⟨k, rfl, hk, hm, hchg⟩ := hrel
      by_cases hlt : k < cl
      · obtain ⟨x, cx, cf⟩ := hm.some1 k hlt
        have hm2 := hm.step hlt
        have hch2 : Chg (fun b => b = g) (w4.drewN n5) (wr.setCell ⟨g, k, none⟩ (.string markB)) := hchg.trans (chg_set _ _ _ _)
        go_wp2
        go_roundw
        case rel => exact ⟨k + 1, by go_num, by omega, hm2, hch2⟩
        case measure => simp [intOf]; omega
      · obtain rfl : k = cl := by omega
        have zr := hchg.size
        have inw6 : StrIn wr ow L' := inw.chg (B := w3.heap.size) (Nat.le_refl _) hg (below_drewN hb4 n5) hchg
        have hB6 : Below w.heap.size w wr := Chg.below (below_drewN hB4 n5) hchg (by show _ ≤ w4.heap.size; omega) (fun b hb => by show _ ≤ b; omega)
        go_wp2_with fail
        refine (flowCubes_any s _ hs).mono ?_
        rintro e w7 ⟨⟨vk, L2, rfl, hrk, hlk⟩, hb7⟩
        obtain rfl : L2 = L' := map_bl_inj (hlk.trans HW.out.symm)
        obtain ⟨ok, ck, rfl⟩ := ownsRow_shape hrk
        have inw7 := inw6.below hb7
        have inl7 := hrk.reads
        have hm7 : MRow w7 g k k := hm.same (hb7.block g hm.lt)
        have hB7 : Below w.heap.size w w7 := hB6.trans (hb7.mono hB6.size)
        clear hlk hrk hrw hrl
        go_wp2_with fail
        refine (sameTexts_eq L2 ok ow ck cw _ (by omega) inl7 inw7).mono ?_
        rintro e w8 ⟨rfl, n8, rfl⟩
        have hm8 : MRow (w7.drewN n8) g k k := hm7
        go_wp2_with fail
        go_loop [11, 16] (fun x i => ∃ j : Nat, j ≤ k ∧ x = .bool true ∧ i = .int .i64 j) (fun _ i => k - (intOf i).toNat)
        case atStart => exact ⟨0, Nat.zero_le _, rfl, rfl⟩
        case round =>
          obtain ⟨j, hj, rfl, rfl⟩ := hrel
          by_cases hjk : j < k
          · have cj := hm8.known j hjk
            unfold markB at cj
            go_wp2
            go_round
            case rel => exact ⟨j + 1, by omega, rfl, by go_num⟩
            case measure => simp [intOf]; omega
          · go_wp2
            go_ret
            exact ⟨by simp, below_drewN hB7 n8⟩
end Go.Proofs.Ytgkiknfpcbcnnaa
