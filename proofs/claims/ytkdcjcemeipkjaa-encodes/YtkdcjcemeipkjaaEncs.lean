import Derived.Test.YtkdcjcemeipkjaaStill
namespace Go.Proofs.Ytkdcjcemeipkjaa
open Go.RowKit
set_option maxRecDepth 20000

set_option maxHeartbeats 1000000 in
theorem encodes_any (w : World) (ao : Option Addr) (cap : Nat) (ps : List Pt) (hp : PartsIn w ao ps) (hn : ps.length ≤ 5864062014803) (ht : ∀ p ∈ ps, p.ts.length ≤ 11000000000000) :
    Calls Try.prog 4 #[.agg #[.slice ao ps.length cap]] w fun e w' => e = .returned (.bool true) ∧ Below w.heap.size w w' := by
  have hp1 := hp.below (below_alloc w (.cells #[.slice ao ps.length cap] 24))
  have hE : ∀ (g : Nat) (v : World), PartsIn v (some ⟨g, 0, none⟩) ps → Calls Try.prog 16 #[.agg #[.slice (some ⟨g, 0, none⟩) ps.length (ps.length + 1)]] v fun e w' => e = .returned (encR ps) ∧ Below v.heap.size v w' := by
    intro g v hv
    cases hr : isR ps
    · exact (encode_no ps _ _ v hr (by omega) hv).mono fun e w' h => ⟨h.1.trans (by simp [encR, hr]), h.2⟩
    · exact (encode_yes ps _ _ v hr hv).mono fun e w' h => ⟨h.1.trans (by simp [encR, hr]), h.2⟩
  obtain ⟨s, c, hs⟩ : ∃ s c, encR ps = .tuple #[.string s, .int .i64 c] := by
    unfold encR; split <;> exact ⟨_, _, rfl⟩
  go_enter Try.func4, Try.ntmps4
  go_wp2_with (first
    | (go_at_call 15; refine (roomy_any _ _ _ _ hp1 hn ht).mono ?_; rintro e w1 ⟨rfl, hb1, hr1⟩; have hpp := hp1.below hb1; rw [World.size_alloc] at hr1; have hpi := hr1.parts ht; have k1 : w1.cell? ⟨w.heap.size, 0, none⟩ = some (.slice ao ps.length cap) := (hb1.cell (by simp)).trans (by simp [go_sem]))
    | (go_at_call 16; refine (hE _ _ hpi).mono ?_; rw [hs]; rintro e w2 ⟨rfl, hb2⟩; have hr2 := hr1.below hb2; have hp2 := hpp.below hb2; have k2 : w2.cell? ⟨w.heap.size, 0, none⟩ = some (.slice ao ps.length cap) := (hb2.cell (World.block_lt_of_cell? _ _ k1)).trans k1)
    | (go_at_call 17; refine (refEncode_any _ _ _ _ (by omega) hp2).mono ?_; rw [hs]; rintro e w3 ⟨rfl, hb3⟩; have hr3 := hr2.below hb3; have hp3 := hp2.below hb3; have k3 : w3.cell? ⟨w.heap.size, 0, none⟩ = some (.slice ao ps.length cap) := (hb3.cell (World.block_lt_of_cell? _ _ k2)).trans k2)
    | (go_at_call 18; refine (still_any _ _ _ _ _ hr3 hp3 hn ht).mono ?_; rintro e w4 ⟨rfl, hb4⟩))
  go_ret
  have z1 := hb1.size
  have z2 := hb2.size
  have z3 := hb3.size
  exact ⟨rfl, below_first (((hb1.trans (hb2.mono z1)).trans (hb3.mono (Nat.le_trans z1 z2))).trans (hb4.mono (Nat.le_trans z1 (Nat.le_trans z2 z3))))⟩
end Go.Proofs.Ytkdcjcemeipkjaa
