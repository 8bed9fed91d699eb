import Derived.Test.YtkdcjcemeipkjaaRoom2
import Derived.Test.YtkdcjcemeipkjaaSame
namespace Go.Proofs.Ytkdcjcemeipkjaa
open Go.RowKit
set_option maxRecDepth 20000

/-- The spare cells of one list, and where it is told. -/
theorem Roomed.at {w : World} {g : Nat} {ps : List Pt} (h : Roomed w g ps) (j : Nat) (hj : j < ps.length) : ∃ g', g < w.heap.size ∧ g' < w.heap.size ∧ w.cell? ⟨g, j * 4 + 3, none⟩ = some (.slice (some ⟨g', 0, none⟩) ps[j].ts.length (ps[j].ts.length + 1)) ∧
    w.cell? ⟨g', ps[j].ts.length * 4, none⟩ = some (.bool true) ∧ w.cell? ⟨g', ps[j].ts.length * 4 + 1, none⟩ = some (.bool true) ∧ w.cell? ⟨g', ps[j].ts.length * 4 + 2, none⟩ = some (.int .i64 (-9)) ∧ w.cell? ⟨g', ps[j].ts.length * 4 + 3, none⟩ = some (.int .i64 (-9 - (j : Int))) := by
  obtain ⟨cur, hh, hf, _⟩ := h
  obtain ⟨tv, c0, c1, c2, c3, hr⟩ := hf j hj
  obtain ⟨g', rfl, _, s0, s1, s2, s3⟩ := hr.terms
  exact ⟨g', lt_of_block hh, World.block_lt_of_cell? w _ s0, by rw [cell_of_row w g _ cur 35 (0, 0) hh]; exact c3, s0, s1, s2, s3⟩

theorem Roomed.end {w : World} {g : Nat} {ps : List Pt} (h : Roomed w g ps) : w.cell? ⟨g, ps.length * 4, none⟩ = some (.int .i64 (-9)) ∧ w.cell? ⟨g, ps.length * 4 + 3, none⟩ = some (.slice none 0 0) := by
  obtain ⟨cur, hh, _, e0, e3⟩ := h
  exact ⟨by rw [cell_of_row w g _ cur 35 (0, 0) hh]; exact e0, by rw [cell_of_row w g _ cur 35 (0, 0) hh]; exact e3⟩

theorem spoilt_b (i : Int) (w W0 : World) (h0 : 0 ≤ i) (h1 : i ≤ 140737488351232) (hb : Below W0.heap.size W0 w) :
    Calls Try.prog 28 #[.int .i64 i] w fun e w' => e = .returned (.agg #[.bool true, .bool true, .int .i64 (-9), .int .i64 (-9 - i)]) ∧ Below W0.heap.size W0 w' :=
  (spoilt_big i w h0 h1).mono fun _ _ h => ⟨h.1, hb.trans (h.2.mono hb.size)⟩

theorem held4 {W w' : World} {g o : Nat} {a b c d : Value} (hg : g < W.heap.size) (c0 : W.cell? ⟨g, o, none⟩ = some a) (c1 : W.cell? ⟨g, o + 1, none⟩ = some b) (c2 : W.cell? ⟨g, o + 2, none⟩ = some c) (c3 : W.cell? ⟨g, o + 3, none⟩ = some d) (hb : Below W.heap.size W w') :
    w'.cell? ⟨g, o, none⟩ = some a ∧ w'.cell? ⟨g, o + 1, none⟩ = some b ∧ w'.cell? ⟨g, o + 2, none⟩ = some c ∧ w'.cell? ⟨g, o + 3, none⟩ = some d ∧ Below W.heap.size W w' :=
  ⟨(hb.cell hg).trans c0, (hb.cell hg).trans c1, (hb.cell hg).trans c2, (hb.cell hg).trans c3, hb⟩

set_option maxHeartbeats 1000000 in
theorem still_any (w : World) (g : Nat) (lo : Option Addr) (cap : Nat) (ps : List Pt) (hr : Roomed w g ps) (hl : PartsIn w lo ps) (hn : ps.length ≤ 5864062014803) (ht : ∀ p ∈ ps, p.ts.length ≤ 11000000000000) :
    Calls Try.prog 18 #[.slice (some ⟨g, 0, none⟩) ps.length (ps.length + 1), .slice lo ps.length cap] w fun e w' => e = .returned (.bool true) ∧ Below w.heap.size w w' := by
  have hpi := hr.parts ht
  go_enter Try.func18, Try.ntmps18
  go_wp2_with (go_at_call 11; refine (sameParts_eq _ _ _ _ _ _ (by omega) hpi hl).mono ?_; rintro e w1 ⟨rfl, nd, rfl⟩)
  have hb1 : Below w.heap.size w (w.drewN nd) := below_drewN (Below.refl _ _) _
  clear hpi hl
  go_loopw [6] (fun i wr => ∃ j : Nat, i = .int .i64 j ∧ j ≤ ps.length ∧ Below w.heap.size w wr) (fun i _ => ps.length - (intOf i).toNat)
  case atStart => exact ⟨0, rfl, Nat.zero_le _, hb1⟩
  case round =>
    obtain ⟨j, rfl, hj, hbel⟩ := hrel
    have hrr := hr.below hbel
    by_cases hlt : j < ps.length
    · obtain ⟨g', hg, hg', c3, s0, s1, s2, s3⟩ := hrr.at j hlt
      have htl := ht _ (List.getElem_mem hlt)
      clear hrr hr ht
      generalize ps[j] = p at *
      have hidx : (p.ts.length : Int) < (p.ts.length : Int) + 1 := by omega
      go_wp2_with fail
      go_region_held3 (fun w' => w'.cell? ⟨g', p.ts.length * 4, none⟩ = some (.bool true) ∧ w'.cell? ⟨g', p.ts.length * 4 + 1, none⟩ = some (.bool true) ∧ w'.cell? ⟨g', p.ts.length * 4 + 2, none⟩ = some (.int .i64 (-9)) ∧ w'.cell? ⟨g', p.ts.length * 4 + 3, none⟩ = some (.int .i64 (-9 - (j : Int))) ∧ Below wr.heap.size wr w')
        (first | exact held4 hg' s0 s1 s2 s3 (by assumption) | exact held4 hg' s0 s1 s2 s3 (Below.refl _ _) | exact held4 hg' s0 s1 s2 s3 (Below.refl _ _).drew)
        ((go_at_call 28; refine (spoilt_b _ _ wr (by omega) (by omega) (by go_split_ands; assumption)).mono ?_; rintro e w1 ⟨rfl, hb2⟩))
      all_goals go_wp2
      all_goals go_roundw
      case rel => exact ⟨j + 1, by go_num, by omega, hbel.trans (Below.mono (by assumption) hbel.size)⟩
      case measure => simp [intOf]; omega
    · have e : j = ps.length := by omega
      subst e
      obtain ⟨e0, e3⟩ := hrr.end
      clear hrr hr ht
      go_wp2
      go_ret
      exact ⟨rfl, hbel⟩
end Go.Proofs.Ytkdcjcemeipkjaa
