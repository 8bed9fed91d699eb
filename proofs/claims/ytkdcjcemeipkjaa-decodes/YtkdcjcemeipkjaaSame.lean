import Derived.Test.YtkdcjcemeipkjaaRef5
namespace Go.Proofs.Ytkdcjcemeipkjaa
open Go.RowKit
set_option maxRecDepth 20000

theorem TermsIn.drewN {w : World} {ao : Option Addr} {ts : List Tm} (h : TermsIn w ao ts) (n : Nat) : TermsIn (w.drewN n) ao ts := h.below (below_drewN (Below.refl _ _) _)
theorem PartsIn.drewN {w : World} {ao : Option Addr} {ps : List Pt} (h : PartsIn w ao ps) (n : Nat) : PartsIn (w.drewN n) ao ps := h.below (below_drewN (Below.refl _ _) _)

set_option maxHeartbeats 800000 in
theorem sameTerms_eq (ts : List Tm) (ao bo : Option Addr) (ca cb : Nat) (w : World) (hlen : ts.length ≤ 140737488351232) (ha : TermsIn w ao ts) (hb : TermsIn w bo ts) :
    Calls Try.prog 27 #[.slice ao ts.length ca, .slice bo ts.length cb] w fun e w' => e = .returned (.bool true) ∧ ∃ n, w' = w.drewN n := by
  go_enter Try.func27, Try.ntmps27
  go_wp2
  go_loopw [5] (fun i wr => ∃ j n : Nat, i = .int .i64 j ∧ j ≤ ts.length ∧ wr = w.drewN n) (fun i _ => ts.length - (intOf i).toNat)
  case atStart => exact ⟨0, 0, rfl, Nat.zero_le _, rfl⟩
  case round =>
    obtain ⟨j, n, rfl, hj, rfl⟩ := hrel
    by_cases hlt : j < ts.length
    · obtain ⟨b, off, rfl, c0, c1, c2, c3⟩ := ha j hlt
      obtain ⟨b', off', rfl, c0', c1', c2', c3'⟩ := hb j hlt
      clear ha hb
      generalize ts[j] = t at *
      go_wp2_with fail
      go_quiet (fail)
      go_wp2
      go_roundw
      case rel => exact ⟨j + 1, _, by go_num, by omega, rfl⟩
      case measure => simp [intOf]; omega
    · clear ha hb
      go_wp2
      go_ret
      exact ⟨rfl, n, rfl⟩

set_option maxHeartbeats 1600000 in
theorem sameParts_eq (ps : List Pt) (ao bo : Option Addr) (ca cb : Nat) (w : World) (hlen : ps.length ≤ 140737488351232) (ha : PartsIn w ao ps) (hb : PartsIn w bo ps) :
    Calls Try.prog 11 #[.slice ao ps.length ca, .slice bo ps.length cb] w fun e w' => e = .returned (.bool true) ∧ ∃ n, w' = w.drewN n := by
  go_enter Try.func11, Try.ntmps11
  go_wp2
  go_loopw [5] (fun i wr => ∃ j n : Nat, i = .int .i64 j ∧ j ≤ ps.length ∧ wr = w.drewN n) (fun i _ => ps.length - (intOf i).toNat)
  case atStart => exact ⟨0, 0, rfl, Nat.zero_le _, rfl⟩
  case round =>
    obtain ⟨j, n, rfl, hj, rfl⟩ := hrel
    by_cases hlt : j < ps.length
    · obtain ⟨b, off, tao, tcap, rfl, c0, c1, c2, c3, hl, ht⟩ := ha j hlt
      obtain ⟨b', off', tao', tcap', rfl, c0', c1', c2', c3', hl', ht'⟩ := hb j hlt
      clear ha hb
      generalize ps[j] = p at *
      go_wp2_with fail
      go_quiet ((go_at_call 27; exact (sameTerms_eq _ _ _ _ _ _ hl (ht.drewN _) (ht'.drewN _)).mono fun e w' h => ⟨h.1, by obtain ⟨m, rfl⟩ := h.2; exact ⟨_, by rw [World.drewN_drewN, Nat.add_assoc]⟩⟩))
      go_wp2_with fail
      go_quiet (fail)
      go_wp2
      go_roundw
      case rel => exact ⟨j + 1, _, by go_num, by omega, rfl⟩
      case measure => simp [intOf]; omega
    · clear ha hb
      go_wp2
      go_ret
      exact ⟨rfl, n, rfl⟩
end Go.Proofs.Ytkdcjcemeipkjaa
