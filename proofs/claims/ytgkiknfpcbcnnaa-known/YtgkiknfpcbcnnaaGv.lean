import Derived.Test.YtgkiknfpcbcnnaaGu
import Derived.Test.YtgkiknfpcbcnnaaGp
import Derived.BigQuiet
namespace Go.Proofs.Ytgkiknfpcbcnnaa
open Go.RowKit
set_option maxRecDepth 20000

def szOf : Value → Nat
  | .string b => b.size
  | _ => 0

theorem stars_any (n : Nat) (w : World) (hn : n ≤ 1000) :
    Calls Try.prog 36 #[.int .i64 (n : Int)] w fun e w' => e = .returned (.string (stB n)) ∧ w' = w := by
  go_enter Try.func36, Try.ntmps36
  go_wp2_with fail
  go_loop [3] (fun x => ∃ j : Nat, j ≤ n ∧ x = .string (stB j)) (fun x => n - szOf x)
  case atStart => exact ⟨0, Nat.zero_le _, rfl⟩
  case round =>
    obtain ⟨j, hj, rfl⟩ := hrel
    have hs := stB_size j
    by_cases hlt : j < n
    · have H : Hid (stB (j + 1) = stB j ++ ⟨#[42]⟩) := rfl
      have e1 : (stB j ++ (⟨#[42]⟩ : ByteArray)).size = j + 1 := by rw [ByteArray.size_append, hs]; rfl
      have E1 : Hid ((stB j ++ (⟨#[42]⟩ : ByteArray)).size = j + 1) := e1
      clear e1
      generalize stB j = S at *
      go_wp2_with fail
      go_round
      case rel => exact ⟨j + 1, by omega, by rw [H.out]⟩
      case measure => simp only [szOf]; rw [E1.out]; omega
    · obtain rfl : j = n := by omega
      go_wp2_with fail
      go_ret
      exact ⟨rfl, rfl⟩

theorem kCount2 (w : World) : Calls Try.prog 27 #[.string ⟨#[4, 134, 0]⟩] w fun e w' => e = .returned (.tuple #[.int .i64 16, .int .i64 0]) ∧ Below w.heap.size w w' := by
  have h := flowCount_any ⟨#[4, 134, 0]⟩ w (by decide)
  rw [ct2.1, ct2.2] at h
  exact h
theorem kCount3 (w : World) : Calls Try.prog 27 #[.string ⟨#[5, 129, 2]⟩] w fun e w' => e = .returned (.tuple #[.int .i64 64, .int .i64 0]) ∧ Below w.heap.size w w' := by
  have h := flowCount_any ⟨#[5, 129, 2]⟩ w (by decide)
  rw [ct3.1, ct3.2] at h
  exact h
theorem kCount8 (w : World) : Calls Try.prog 27 #[.string ⟨#[1, 4, 15]⟩] w fun e w' => e = .returned (.tuple #[.int .i64 0, .int .i64 1]) ∧ Below w.heap.size w w' := by
  have h := flowCount_any ⟨#[1, 4, 15]⟩ w (by decide)
  rw [ct8.1, ct8.2] at h
  exact h
theorem kCount9 (w : World) : Calls Try.prog 27 #[.string ⟨#[3, 134, 0, 5, 129, 2]⟩] w fun e w' => e = .returned (.tuple #[.int .i64 512, .int .i64 0]) ∧ Below w.heap.size w w' := by
  have h := flowCount_any ⟨#[3, 134, 0, 5, 129, 2]⟩ w (by decide)
  rw [ct9.1, ct9.2] at h
  exact h
theorem kComp5 (w : World) : Calls Try.prog 25 #[.string ⟨#[1, 8, 10]⟩, .string ⟨#[1, 16, 10, 1]⟩] w fun e w' => e = .returned (.tuple #[.int .i64 1, .int .i64 0]) ∧ Below w.heap.size w w' := by
  have h := compare_any ⟨#[1, 8, 10]⟩ ⟨#[1, 16, 10, 1]⟩ w (by decide) (by decide)
  rw [cc5.1, cc5.2] at h
  exact h
theorem kComp6 (w : World) : Calls Try.prog 25 #[.string ⟨#[1, 8, 10]⟩, .string ⟨#[2, 8, 10]⟩] w fun e w' => e = .returned (.tuple #[.int .i64 (-1), .int .i64 0]) ∧ Below w.heap.size w w' := by
  have h := compare_any ⟨#[1, 8, 10]⟩ ⟨#[2, 8, 10]⟩ w (by decide) (by decide)
  rw [cc6.1, cc6.2] at h
  exact h
theorem kMatch7 (w : World) : Calls Try.prog 23 #[.string ⟨#[4, 3, 80, 197, 82]⟩, .agg #[.int .i64 0, .int .i64 0, .int .i64 0, .int .i64 81, .int .i64 0, .bool false]] w fun e w' => e = .returned (.tuple #[.bool true, .int .i64 0]) ∧ Below w.heap.size w w' := by
  have h := match_any ⟨#[4, 3, 80, 197, 82]⟩ ⟨0, 0, 0, 81, 0, false⟩ w (by decide)
  rw [mm7.1, mm7.2.1] at h
  exact h
theorem kMatch7b (w : World) : Calls Try.prog 23 #[.string ⟨#[4, 3, 80, 197, 82]⟩, .agg #[.int .i64 0, .int .i64 0, .int .i64 0, .int .i64 81, .int .i64 0, .bool true]] w fun e w' => e = .returned (.tuple #[.bool false, .int .i64 0]) ∧ Below w.heap.size w w' := by
  have h := match_any ⟨#[4, 3, 80, 197, 82]⟩ ⟨0, 0, 0, 81, 0, true⟩ w (by decide)
  rw [mm7.2.2.1, mm7.2.2.2] at h
  exact h

theorem kCubes9 (w : World) : Calls Try.prog 30 #[.string ⟨#[3, 134, 0, 5, 129, 2]⟩] w fun e w' => (∃ a c, e = .returned (.tuple #[.slice a 0 c, .int .i64 4])) ∧ Below w.heap.size w w' := by
  refine (flowCubes_any ⟨#[3, 134, 0, 5, 129, 2]⟩ w (by decide)).mono ?_
  rintro e w1 ⟨⟨v, L, rfl, hr, hl⟩, hb⟩
  rw [cb9.2] at hl
  have hL : L = [] := List.map_eq_nil_iff.1 hl
  subst hL
  obtain ⟨a, c, rfl⟩ := ownsRow_shape hr
  rw [cb9.1]
  exact ⟨⟨a, c, rfl⟩, hb⟩

theorem kCubes4 (w : World) : Calls Try.prog 30 #[.string ⟨#[5, 130, 192]⟩] w fun e w' => (∃ g c, e = .returned (.tuple #[.slice (some ⟨g, 0, none⟩) 1 c, .int .i64 0]) ∧ w'.cell? ⟨g, 0, none⟩ = some (.string (stB 56 ++ ⟨#[48, 48, 42, 42, 42, 42, 42, 42, 48]⟩))) ∧ Below w.heap.size w w' := by
  refine (flowCubes_any ⟨#[5, 130, 192]⟩ w (by decide)).mono ?_
  rintro e w1 ⟨⟨v, L, rfl, hr, hl⟩, hb⟩
  rw [cb4.2] at hl
  rw [cb4.1]
  obtain ⟨D, g, c, rfl, hD, rfl, hc, _, _⟩ := row_one hr hl
  refine ⟨⟨g, c, rfl, ?_⟩, hb⟩
  rw [hc]
  congr 2
  apply bl_inj
  rw [hD, bl_app, bl_stB]
  rfl

theorem kCubes1 (w : World) : Calls Try.prog 30 #[.string ⟨#[4, 3, 80, 197, 82]⟩] w fun e w' => (∃ g c, e = .returned (.tuple #[.slice (some ⟨g, 0, none⟩) 2 c, .int .i64 0]) ∧ w'.cell? ⟨g, 0, none⟩ = some (.string (stB 40 ++ ⟨#[48, 48, 48, 48, 48, 48, 48, 48, 48, 49, 48, 49, 48, 48, 48, 42]⟩ ++ (stB 8 ++ ⟨#[48]⟩))) ∧ w'.cell? ⟨g, 1, none⟩ = some (.string (stB 40 ++ ⟨#[48, 48, 48, 48, 48, 48, 48, 48, 48, 49, 48, 49, 48, 48, 49, 48]⟩ ++ (stB 8 ++ ⟨#[48]⟩)))) ∧ Below w.heap.size w w' := by
  refine (flowCubes_any ⟨#[4, 3, 80, 197, 82]⟩ w (by decide)).mono ?_
  rintro e w1 ⟨⟨v, L, rfl, hr, hl⟩, hb⟩
  rw [cb1.2] at hl
  rw [cb1.1]
  have hlen : L.length = 2 := by have := congrArg List.length hl; rw [List.length_map] at this; exact this
  obtain ⟨A, B, rfl⟩ : ∃ A B, L = [A, B] := by
    cases L with
    | nil => simp at hlen
    | cons A r => cases r with
      | nil => simp at hlen
      | cons B r => cases r with
        | nil => exact ⟨A, B, rfl⟩
        | cons C r => simp at hlen
  · simp only [List.map_cons, List.map_nil, List.cons.injEq, and_true] at hl
    obtain ⟨g, c, rfl, _, _, hc⟩ := row_some hr (by simp)
    have hA : A = stB 40 ++ ⟨#[48, 48, 48, 48, 48, 48, 48, 48, 48, 49, 48, 49, 48, 48, 48, 42]⟩ ++ (stB 8 ++ ⟨#[48]⟩) := by
      apply bl_inj
      rw [hl.1, bl_app, bl_app, bl_app, bl_stB, bl_stB]
      rfl
    have hB : B = stB 40 ++ ⟨#[48, 48, 48, 48, 48, 48, 48, 48, 48, 49, 48, 49, 48, 48, 49, 48]⟩ ++ (stB 8 ++ ⟨#[48]⟩) := by
      apply bl_inj
      rw [hl.2, bl_app, bl_app, bl_app, bl_stB, bl_stB]
      rfl
    refine ⟨⟨g, c, rfl, ?_, ?_⟩, hb⟩
    · have := hc 0 (by simp)
      rw [← hA]
      exact this
    · have := hc 1 (by simp)
      rw [← hB]
      exact this

theorem kDec0 (w : World) : Calls Try.prog 14 #[.string ⟨#[1, 8, 10, 3, 129, 6]⟩] w fun e w' => (∃ b off cap tb toff tcap, e = .returned (.tuple #[.agg #[.slice (some ⟨b, off, none⟩) 2 cap], .int .i64 0]) ∧ b < w'.heap.size ∧ tb < w'.heap.size ∧ w'.cell? ⟨b, off + 1, none⟩ = some (.int .i64 2560) ∧ w'.cell? ⟨b, off + 2, none⟩ = some (.int .i64 8) ∧ w'.cell? ⟨b, off + 4 + 3, none⟩ = some (.slice (some ⟨tb, toff, none⟩) 1 tcap) ∧ w'.cell? ⟨tb, toff, none⟩ = some (.bool false) ∧ w'.cell? ⟨tb, toff + 1, none⟩ = some (.bool false) ∧ w'.cell? ⟨tb, toff + 2, none⟩ = some (.int .i64 1) ∧ w'.cell? ⟨tb, toff + 3, none⟩ = some (.int .i64 6)) ∧ Below w.heap.size w w' := by
  refine (flow2 ⟨#[1, 8, 10, 3, 129, 6]⟩ w (by decide)).mono ?_
  rintro e w1 ⟨hb, ao, cap, qs, rfl, hq, hr⟩
  have hd : dS ⟨#[1, 8, 10, 3, 129, 6]⟩ = [⟨1, 2560, 8, []⟩, ⟨3, 0, 0, [⟨false, false, 1, 6⟩]⟩] := by unfold dS; rw [kn0]; rfl
  have he : eS ⟨#[1, 8, 10, 3, 129, 6]⟩ = 0 := by unfold eS; rw [kn0]; rfl
  have hp := hr.reads2 hq rfl (dS_small _).2
  rw [hd] at hp ⊢
  rw [he]
  obtain ⟨b0, off0, ta0, tc0, e0, p0, p1, p2, p3, _, _⟩ := hp 0 (by simp)
  obtain ⟨b1, off1, ta1, tc1, e1, q0, q1, q2, q3, _, ht⟩ := hp 1 (by simp)
  obtain ⟨tb, toff, rfl, t0, t1, t2, t3⟩ := ht 0 (by simp)
  rw [e0] at e1
  simp only [Option.some.injEq, Addr.mk.injEq, and_true] at e1
  obtain ⟨rfl, rfl⟩ := e1
  subst e0
  refine ⟨⟨b0, off0, cap, tb, toff, tc1, rfl, World.block_lt_of_cell? _ _ p1, World.block_lt_of_cell? _ _ t0, p1, p2, q3, t0, t1, t2, t3⟩, hb⟩
end Go.Proofs.Ytgkiknfpcbcnnaa

namespace Go.Proofs.Ytgkiknfpcbcnnaa
open Go.RowKit
set_option maxRecDepth 20000

def KnOK (k : Int) (w : World) : Prop := Calls Try.prog 9 #[.int .i64 k] w fun e w' => e = .returned (.bool true) ∧ Below w.heap.size w w'

set_option maxHeartbeats 1000000 in
theorem kn_2 (k : Int) (w : World) (h0 : -9223372036854775808 ≤ k) (h1 : k ≤ 9223372036854775807) (hk : pk k 10 = 2) : KnOK k w := by
  unfold KnOK
  go_enter Try.func9, Try.ntmps9
  go_wp2_with fail
  refine (pick_any k 10 _ h0 h1 (by omega) (by omega)).mono ?_
  rintro e w' ⟨rfl, rfl⟩
  rw [hk]
  clear hk h0 h1
  go_wp2_with fail
  refine (kCount2 _).mono ?_
  rintro e w' ⟨rfl, hb⟩
  go_wp2_with fail
  go_ret
  exact ⟨rfl, hb⟩
set_option maxHeartbeats 1000000 in
theorem kn_3 (k : Int) (w : World) (h0 : -9223372036854775808 ≤ k) (h1 : k ≤ 9223372036854775807) (hk : pk k 10 = 3) : KnOK k w := by
  unfold KnOK
  go_enter Try.func9, Try.ntmps9
  go_wp2_with fail
  refine (pick_any k 10 _ h0 h1 (by omega) (by omega)).mono ?_
  rintro e w' ⟨rfl, rfl⟩
  rw [hk]
  clear hk h0 h1
  go_wp2_with fail
  refine (kCount3 _).mono ?_
  rintro e w' ⟨rfl, hb⟩
  go_wp2_with fail
  go_ret
  exact ⟨rfl, hb⟩
set_option maxHeartbeats 1000000 in
theorem kn_5 (k : Int) (w : World) (h0 : -9223372036854775808 ≤ k) (h1 : k ≤ 9223372036854775807) (hk : pk k 10 = 5) : KnOK k w := by
  unfold KnOK
  go_enter Try.func9, Try.ntmps9
  go_wp2_with fail
  refine (pick_any k 10 _ h0 h1 (by omega) (by omega)).mono ?_
  rintro e w' ⟨rfl, rfl⟩
  rw [hk]
  clear hk h0 h1
  go_wp2_with fail
  refine (kComp5 _).mono ?_
  rintro e w' ⟨rfl, hb⟩
  go_wp2_with fail
  go_ret
  exact ⟨rfl, hb⟩
set_option maxHeartbeats 1000000 in
theorem kn_6 (k : Int) (w : World) (h0 : -9223372036854775808 ≤ k) (h1 : k ≤ 9223372036854775807) (hk : pk k 10 = 6) : KnOK k w := by
  unfold KnOK
  go_enter Try.func9, Try.ntmps9
  go_wp2_with fail
  refine (pick_any k 10 _ h0 h1 (by omega) (by omega)).mono ?_
  rintro e w' ⟨rfl, rfl⟩
  rw [hk]
  clear hk h0 h1
  go_wp2_with fail
  refine (kComp6 _).mono ?_
  rintro e w' ⟨rfl, hb⟩
  go_wp2_with fail
  go_ret
  exact ⟨rfl, hb⟩
set_option maxHeartbeats 1000000 in
theorem kn_7 (k : Int) (w : World) (h0 : -9223372036854775808 ≤ k) (h1 : k ≤ 9223372036854775807) (hk : pk k 10 = 7) : KnOK k w := by
  unfold KnOK
  go_enter Try.func9, Try.ntmps9
  go_wp2_with fail
  refine (pick_any k 10 _ h0 h1 (by omega) (by omega)).mono ?_
  rintro e w' ⟨rfl, rfl⟩
  rw [hk]
  clear hk h0 h1
  go_wp2_with fail
  refine (kMatch7 _).mono ?_
  rintro e w1 ⟨rfl, hb1⟩
  go_wp2_with fail
  refine (kMatch7b _).mono ?_
  rintro e w2 ⟨rfl, hb2⟩
  go_wp2_with fail
  go_ret
  exact ⟨rfl, hb1.trans (hb2.mono hb1.size)⟩
set_option maxHeartbeats 1000000 in
theorem kn_8 (k : Int) (w : World) (h0 : -9223372036854775808 ≤ k) (h1 : k ≤ 9223372036854775807) (hk : pk k 10 = 8) : KnOK k w := by
  unfold KnOK
  go_enter Try.func9, Try.ntmps9
  go_wp2_with fail
  refine (pick_any k 10 _ h0 h1 (by omega) (by omega)).mono ?_
  rintro e w' ⟨rfl, rfl⟩
  rw [hk]
  clear hk h0 h1
  go_wp2_with fail
  refine (kCount8 _).mono ?_
  rintro e w' ⟨rfl, hb⟩
  go_wp2_with fail
  go_ret
  exact ⟨rfl, hb⟩
set_option maxHeartbeats 1000000 in
theorem kn_9 (k : Int) (w : World) (h0 : -9223372036854775808 ≤ k) (h1 : k ≤ 9223372036854775807) (hk : pk k 10 = 9) : KnOK k w := by
  unfold KnOK
  go_enter Try.func9, Try.ntmps9
  go_wp2_with fail
  refine (pick_any k 10 _ h0 h1 (by omega) (by omega)).mono ?_
  rintro e w' ⟨rfl, rfl⟩
  rw [hk]
  clear hk h0 h1
  go_wp2_with fail
  refine (kCubes9 _).mono ?_
  rintro e w1 ⟨⟨a, c, rfl⟩, hb1⟩
  go_wp2_with fail
  refine (kCount9 _).mono ?_
  rintro e w2 ⟨rfl, hb2⟩
  go_wp2_with fail
  go_ret
  exact ⟨rfl, hb1.trans (hb2.mono hb1.size)⟩
end Go.Proofs.Ytgkiknfpcbcnnaa

namespace Go.Proofs.Ytgkiknfpcbcnnaa
open Go.RowKit
set_option maxRecDepth 20000

set_option maxHeartbeats 1000000 in
theorem kn_1 (k : Int) (w : World) (h0 : -9223372036854775808 ≤ k) (h1 : k ≤ 9223372036854775807) (hk : pk k 10 = 1) : KnOK k w := by
  unfold KnOK
  have H1 : Hid (∀ w, Calls Try.prog 36 #[.int .i64 40] w fun e w' => e = .returned (.string (stB 40)) ∧ w' = w) := fun w => stars_any 40 w (by omega)
  have H2 : Hid (∀ w, Calls Try.prog 36 #[.int .i64 8] w fun e w' => e = .returned (.string (stB 8)) ∧ w' = w) := fun w => stars_any 8 w (by omega)
  have H3 : Hid (∀ w, Calls Try.prog 30 #[.string ⟨#[4, 3, 80, 197, 82]⟩] w fun e w' => (∃ g c, e = .returned (.tuple #[.slice (some ⟨g, 0, none⟩) 2 c, .int .i64 0]) ∧ w'.cell? ⟨g, 0, none⟩ = some (.string (stB 40 ++ ⟨#[48, 48, 48, 48, 48, 48, 48, 48, 48, 49, 48, 49, 48, 48, 48, 42]⟩ ++ (stB 8 ++ ⟨#[48]⟩))) ∧ w'.cell? ⟨g, 1, none⟩ = some (.string (stB 40 ++ ⟨#[48, 48, 48, 48, 48, 48, 48, 48, 48, 49, 48, 49, 48, 48, 49, 48]⟩ ++ (stB 8 ++ ⟨#[48]⟩)))) ∧ Below w.heap.size w w') := kCubes1
  have s40 := stB_size 40
  have s8 := stB_size 8
  generalize stB 40 = P at *
  generalize stB 8 = Q at *
  go_enter Try.func9, Try.ntmps9
  go_wp2_with fail
  refine (pick_any k 10 _ h0 h1 (by omega) (by omega)).mono ?_
  rintro e w' ⟨rfl, rfl⟩
  rw [hk]
  clear hk h0 h1
  go_wp2_with fail
  refine (H3.out _).mono ?_
  rintro e w1 ⟨⟨g, c, rfl, c0, c1⟩, hb1⟩
  go_wp2_with fail
  refine (H1.out _).mono ?_
  rintro e w2 ⟨rfl, rfl⟩
  go_wp2_with fail
  refine (H2.out _).mono ?_
  rintro e w3 ⟨rfl, rfl⟩
  go_wp2_with fail
  go_ret
  exact ⟨rfl, hb1⟩

set_option maxHeartbeats 1000000 in
theorem kn_4 (k : Int) (w : World) (h0 : -9223372036854775808 ≤ k) (h1 : k ≤ 9223372036854775807) (hk : pk k 10 = 4) : KnOK k w := by
  unfold KnOK
  have H1 : Hid (∀ w, Calls Try.prog 36 #[.int .i64 56] w fun e w' => e = .returned (.string (stB 56)) ∧ w' = w) := fun w => stars_any 56 w (by omega)
  have H3 : Hid (∀ w, Calls Try.prog 30 #[.string ⟨#[5, 130, 192]⟩] w fun e w' => (∃ g c, e = .returned (.tuple #[.slice (some ⟨g, 0, none⟩) 1 c, .int .i64 0]) ∧ w'.cell? ⟨g, 0, none⟩ = some (.string (stB 56 ++ ⟨#[48, 48, 42, 42, 42, 42, 42, 42, 48]⟩))) ∧ Below w.heap.size w w') := kCubes4
  have s56 := stB_size 56
  generalize stB 56 = P at *
  go_enter Try.func9, Try.ntmps9
  go_wp2_with fail
  refine (pick_any k 10 _ h0 h1 (by omega) (by omega)).mono ?_
  rintro e w' ⟨rfl, rfl⟩
  rw [hk]
  clear hk h0 h1
  go_wp2_with fail
  refine (H3.out _).mono ?_
  rintro e w1 ⟨⟨g, c, rfl, c0⟩, hb1⟩
  go_wp2_with fail
  go_quiet ((go_at_call 36; exact Calls.quiet_of_same (H1.out _)))
  go_wp2_with fail
  go_ret
  exact ⟨rfl, below_drewN hb1 _⟩

set_option maxHeartbeats 1000000 in
theorem kn_0 (k : Int) (w : World) (h0 : -9223372036854775808 ≤ k) (h1 : k ≤ 9223372036854775807) (hk : pk k 10 = 0) : KnOK k w := by
  unfold KnOK
  go_enter Try.func9, Try.ntmps9
  go_wp2_with fail
  refine (pick_any k 10 _ h0 h1 (by omega) (by omega)).mono ?_
  rintro e w' ⟨rfl, rfl⟩
  rw [hk]
  clear hk h0 h1
  go_wp2_with fail
  refine (kDec0 _).mono ?_
  rintro e w1 ⟨⟨b, off, cap, tb, toff, tcap, rfl, hb, htb, c1, c2, c3, t0, t1, t2, t3⟩, hb1⟩
  have hba := below_alloc w1 (.cells #[.slice (some ⟨b, off, none⟩) 2 cap] 24)
  have d1 := (hba.cell (p := ⟨b, off + 1, none⟩) hb).trans c1
  have d2 := (hba.cell (p := ⟨b, off + 2, none⟩) hb).trans c2
  have d3 := (hba.cell (p := ⟨b, off + 4 + 3, none⟩) hb).trans c3
  have u0 := (hba.cell (p := ⟨tb, toff, none⟩) htb).trans t0
  have u1 := (hba.cell (p := ⟨tb, toff + 1, none⟩) htb).trans t1
  have u2 := (hba.cell (p := ⟨tb, toff + 2, none⟩) htb).trans t2
  have u3 := (hba.cell (p := ⟨tb, toff + 3, none⟩) htb).trans t3
  clear c1 c2 c3 t0 t1 t2 t3
  go_wp2_with fail
  go_ret
  exact ⟨rfl, hb1.alloc hb1.size _⟩

theorem known_any (k : Int) (w : World) (h0 : -9223372036854775808 ≤ k) (h1 : k ≤ 9223372036854775807) : KnOK k w := by
  have hp := pk_bd k 10 (by omega)
  have hc : pk k 10 = 0 ∨ pk k 10 = 1 ∨ pk k 10 = 2 ∨ pk k 10 = 3 ∨ pk k 10 = 4 ∨ pk k 10 = 5 ∨ pk k 10 = 6 ∨ pk k 10 = 7 ∨ pk k 10 = 8 ∨ pk k 10 = 9 := by omega
  rcases hc with h | h | h | h | h | h | h | h | h | h
  · exact kn_0 k w h0 h1 h
  · exact kn_1 k w h0 h1 h
  · exact kn_2 k w h0 h1 h
  · exact kn_3 k w h0 h1 h
  · exact kn_4 k w h0 h1 h
  · exact kn_5 k w h0 h1 h
  · exact kn_6 k w h0 h1 h
  · exact kn_7 k w h0 h1 h
  · exact kn_8 k w h0 h1 h
  · exact kn_9 k w h0 h1 h
end Go.Proofs.Ytgkiknfpcbcnnaa
