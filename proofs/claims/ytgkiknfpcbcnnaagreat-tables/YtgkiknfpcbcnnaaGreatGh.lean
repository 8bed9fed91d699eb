import Derived.Test.YtgkiknfpcbcnnaaGreatGg
namespace Go.Proofs.YtgkiknfpcbcnnaaGreat
open Go.RowKit
set_option maxRecDepth 20000
end Go.Proofs.YtgkiknfpcbcnnaaGreat
namespace Go.Proofs.YtgkiknfpcbcnnaaGreat
open Go.RowKit
set_option maxRecDepth 20000
end Go.Proofs.YtgkiknfpcbcnnaaGreat
namespace Go.Proofs.YtgkiknfpcbcnnaaGreat
open Go.RowKit
set_option maxRecDepth 20000
end Go.Proofs.YtgkiknfpcbcnnaaGreat
namespace Go.Proofs.YtgkiknfpcbcnnaaGreat
open Go.RowKit
set_option maxRecDepth 20000
def dS (s : ByteArray) : List Pt := (decS s).getD []
def eS (s : ByteArray) : Int := if (decS s).isSome then 0 else 1
theorem dS_small (s : ByteArray) : (dS s).length ≤ 5 ∧ ∀ p ∈ dS s, p.ts.length ≤ 140737488351232 := by
  unfold dS
  cases h : decS s with
  | none => simp
  | some ps => have := isR_small (decS_sound s ps h).1; exact ⟨this.1, this.2.2⟩
def Dec2 (s : ByteArray) (B : Nat) (e : Ending) (w' : World) : Prop :=
  ∃ ao cap qs, e = .returned (.tuple #[.agg #[.slice ao (dS s).length cap], .int .i64 (eS s)]) ∧ qs.map Prod.fst = dS s ∧ RuleAt w' B (.slice ao (dS s).length cap) qs
theorem Dec2.of {s : ByteArray} {B : Nat} {e : Ending} {w' : World} (h : DecPost s B e w') : Dec2 s B e w' := by
  unfold DecPost at h
  unfold Dec2 dS eS
  cases hd : decS s with
  | none =>
    rw [hd] at h
    exact ⟨none, 0, [], h, rfl, RuleAt.nil _ _⟩
  | some ps =>
    rw [hd] at h
    obtain ⟨v, qs, he, hq, hr⟩ := h
    obtain ⟨ao, cap, rfl⟩ := ownsRow_shape hr.parts
    have hl : qs.length = ps.length := by rw [← hq, List.length_map]
    rw [hl] at he hr
    exact ⟨ao, cap, qs, he, hq, hr⟩
theorem flow2 (s : ByteArray) (w : World) (hs : s.size ≤ 140737488351232) : Calls Tryz.prog 73 #[.string s] w fun e w' => Below w.heap.size w w' ∧ Dec2 s w.heap.size e w' :=
  (decode_any s w hs).mono fun _ _ h => ⟨h.1, Dec2.of h.2⟩
theorem ref2 (s : ByteArray) (w : World) (hs : s.size ≤ 140737488351232) : Calls Tryz.prog 53 #[.string s] w fun e w' => Below w.heap.size w w' ∧ Dec2 s w.heap.size e w' :=
  (refDecode_any s w hs).mono fun _ _ h => ⟨h.1, Dec2.of h.2⟩
theorem RuleAt.reads2 {w : World} {B n : Nat} {ao : Option Addr} {cap : Nat} {qs : List (Pt × Value)} {ps : List Pt} (h : RuleAt w B (.slice ao n cap) qs) (hq : qs.map Prod.fst = ps) (hn : ps.length = n) (hs : ∀ p ∈ ps, p.ts.length ≤ 140737488351232) : PartsIn w ao ps := by
  have hl : qs.length = n := by rw [← hn, ← hq, List.length_map]
  subst hl
  have := h.reads (fun q hq' => hs q.1 (by rw [← hq]; exact List.mem_map_of_mem hq'))
  rwa [hq] at this
end Go.Proofs.YtgkiknfpcbcnnaaGreat
