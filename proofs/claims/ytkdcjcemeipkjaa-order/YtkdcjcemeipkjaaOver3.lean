import Derived.Test.YtkdcjcemeipkjaaOver2
namespace Go.Proofs.Ytkdcjcemeipkjaa
open Go.RowKit
set_option maxRecDepth 20000

theorem SpR.below {w w' : World} {tv : Value} {d : Bool} {j : Int} (h : SpR w tv d j) (hb : Below w.heap.size w w') : SpR w' tv d j := h.same (fun k hk => hb.block k (h.lt k hk))

set_option maxHeartbeats 3200000 in
theorem over_any (w : World) (B : Nat) (vo : Option Addr) (vc : Nat) (qs : List (Pt × Value)) (hown : w.ownsRow B 33 1 (.slice vo qs.length vc) qs.length (qs.map fun q => fullOf q.2)) (hrows : ∀ j (h : j < qs.length), SpR w qs[j].2 true j) (h5 : qs.length ≤ 5) :
    Calls Try.prog 14 #[.slice vo qs.length vc] w fun e w' => e = .returned (.bool true) ∧ Below w.heap.size w w' := by
  have hout : ∀ j (hj : j < qs.length), ∃ og, vo = some ⟨og, 0, none⟩ ∧ og < w.heap.size ∧ w.cell? ⟨og, 0 + j, none⟩ = some (fullOf qs[j].2) := by
    intro j hj
    rcases hown.2 with ⟨_, h0⟩ | ⟨g, cap', cur, hv, _, hh, _⟩
    · omega
    · simp only [Value.slice.injEq] at hv
      obtain ⟨rfl, _, _⟩ := hv
      have := hown.cells (g := g) rfl j (fullOf qs[j].2) (by rw [List.getElem?_map, List.getElem?_eq_getElem hj]; rfl)
      rw [add0] at this
      exact ⟨g, rfl, lt_of_block hh, this⟩
  clear hown
  go_enter Try.func14, Try.ntmps14
  go_wp2
  go_loopw [3] (fun i wr => ∃ j : Nat, i = .int .i64 j ∧ j ≤ qs.length ∧ Below w.heap.size w wr) (fun i _ => qs.length - (intOf i).toNat)
  case atStart => exact ⟨0, rfl, Nat.zero_le _, Below.refl _ _⟩
  case round =>
    obtain ⟨j, rfl, hj, hbel⟩ := hrel
    by_cases hlt : j < qs.length
    · obtain ⟨og, rfl, hog, hoc⟩ := hout j hlt
      rw [Nat.zero_add] at hoc
      have hrow := (hrows j hlt).below hbel
      have hz := hbel.size
      have c0 : wr.cell? ⟨og, j, none⟩ = some (fullOf qs[j].2) := (hbel.cell hog).trans hoc
      clear hout hrows hoc
      generalize qs[j].2 = tv at *
      rcases hrow with rfl | ⟨g, n, cap, rfl, hn, hcap, hfull⟩
      · simp only [fullOf] at c0
        go_wp2_with (go_at_call 28; refine (spoilt_any _ _ (by omega) (by omega)).mono ?_; rintro e w3 ⟨rfl, hb3⟩; have c3 : w3.cell? ⟨og, j, none⟩ = some (.slice none 0 0) := (hb3.cell (by show og < _; omega)).trans c0; have z3 : og < w3.heap.size := (by have := hb3.size; omega))
        refine wp_loop_rounds 1 ?_
        rw [rounds_succ]
        go_wp2
        go_roundw
        case rel => exact ⟨j + 1, by go_num, by omega, (hbel.trans (hb3.mono hz)).alloc (by have := hb3.size; omega) _⟩
        case measure => simp [intOf]; omega
      · simp only [fullOf] at c0
        go_wp2_with (go_at_call 28; refine (spoilt_any _ _ (by omega) (by omega)).mono ?_; rintro e w3 ⟨rfl, hb3⟩; have c3 : w3.cell? ⟨og, j, none⟩ = some (.slice (some ⟨g, 0, none⟩) cap cap) := (hb3.cell (by show og < _; omega)).trans c0; have z3 : og < w3.heap.size := (by have := hb3.size; omega))
        have hf3 := (hfull.same (hb3.block g hfull.lt))
        have zg := hf3.lt
        simp only [if_true] at hf3
        go_loopw [5] (fun k w2 => ∃ m x : Nat, k = .int .i64 m ∧ m ≤ cap ∧ w2 = (w3.alloc (.cells #[.bool true, .bool true, .int .i64 (-9), .int .i64 (-9 - (j : Int))] 63)).drewN x) (fun k _ => cap - (intOf k).toNat)
        case atStart => exact ⟨0, 0, rfl, Nat.zero_le _, rfl⟩
        case round =>
          obtain ⟨m, x, rfl, hm, rfl⟩ := hrel
          by_cases hmc : m < cap
          · obtain ⟨d0, d1, d2, d3⟩ := hf3.known m hmc
            clear hfull hf3
            go_wp2_with fail
            go_quiet (fail)
            go_wp2
            go_roundw
            case rel => exact ⟨m + 1, _, by go_num, by omega, rfl⟩
            case measure => simp [intOf]; omega
          · clear hfull hf3
            go_wp2
            go_roundw
            case rel => exact ⟨j + 1, by go_num, by omega, below_drewN ((hbel.trans (hb3.mono hz)).alloc (by have := hb3.size; omega) _) _⟩
            case measure => simp [intOf]; omega
    · clear hout hrows
      go_wp2
      go_ret
      exact ⟨rfl, hbel⟩
end Go.Proofs.Ytkdcjcemeipkjaa
