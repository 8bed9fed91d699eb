import Derived.Test.YtkdcjcemeipkjaaKeep3
namespace Go.Proofs.Ytkdcjcemeipkjaa
open Go.RowKit
set_option maxRecDepth 20000

/-- Numbers lie at ao. -/
def IntsAt (w : World) (ao : Option Addr) (n : Nat) : Prop :=
  ∀ i, i < n → ∃ b off z, ao = some ⟨b, off, none⟩ ∧ w.cell? ⟨b, off + i, none⟩ = some (.int .i64 z) ∧ -9223372036854775808 ≤ z ∧ z ≤ 9223372036854775807

theorem Mk.made {w : World} {ao : Option Addr} {n cap : Nat} (h : IntsAt w ao n) (hn : n ≤ 9223372036854775807) : Mk (w.alloc (.cells #[.slice ao n cap, .int .i64 0] 73)) w.heap.size ao n cap := by
  refine ⟨hn, ?_, 0, Nat.zero_le _, heap_alloc_new w _⟩
  intro i hi
  obtain ⟨b, off, z, e, hc, h1, h2⟩ := h i hi
  have hlt := World.block_lt_of_cell? w _ hc
  exact ⟨b, off, z, e, hlt, by rw [(below_alloc w _).cell hlt]; exact hc, h1, h2⟩

theorem allP_snoc (q : Pt) : ∀ (ps : List Pt) (b : Int), allP b ps = true → b < q.ty → (∀ p ∈ ps, p.ty < q.ty) → isP q = true → allP b (ps ++ [q]) = true := by
  intro ps
  induction ps with
  | nil => intro b _ hb _ hq; simp [allP, hb, hq]
  | cons p r ih =>
    intro b h hb hl hq
    simp only [allP, Bool.and_eq_true] at h
    simp only [List.cons_append, allP, Bool.and_eq_true]
    exact ⟨h.1, ih p.ty h.2 (hl p (by simp)) (fun x hx => hl x (by simp [hx])) hq⟩

theorem wParts_snoc (ps : List Pt) (q : Pt) : wParts (ps ++ [q]) = wParts ps ++ wPart q := by
  induction ps with
  | nil => simp [wParts, app_nil, nil_app]
  | cons p r ih => simp only [List.cons_append, wParts, ih, app_assoc]

theorem wParts_size : ∀ (ps : List Pt) (b : Int), allP b ps = true → (wParts ps).size ≤ 25 * ps.length := by
  intro ps
  induction ps with
  | nil => intro b _; exact Nat.zero_le _
  | cons p r ih =>
    intro b h
    simp only [allP, Bool.and_eq_true] at h
    have := wPart_size h.1.2
    have := ih _ h.2
    simp only [wParts, ByteArray.size_append, List.length_cons]; omega

theorem all_dst : (⟨#[1, 0]⟩ : ByteArray) = wParts [⟨1, 0, 0, []⟩] := by
  apply ByteArray.ext
  simp [wParts, wPart, hasP, wPref, pB, wNum, ch, ByteArray.data_append]

set_option maxHeartbeats 1600000 in
theorem made_any (ao : Option Addr) (n cap : Nat) (w : World) (hn : n ≤ 9223372036854775807) (h : IntsAt w ao n) :
    Calls Try.prog 23 #[.slice ao n cap] w fun e w' => ∃ ps : List Pt, e = .returned (.string (wParts ps)) ∧ isR ps = true ∧ Below w.heap.size w w' := by
  have hm0 : Mk (w.alloc (.cells #[.slice ao n cap, .int .i64 0] 73)) w.heap.size ao n cap := Mk.made h hn
  go_enter Try.func23, Try.ntmps23
  go_wp2
  go_loopw [4, 5] (fun s kd wr => ∃ (k : Nat) (ps : List Pt), kd = .int .i64 k ∧ 1 ≤ k ∧ k ≤ 6 ∧ s = .string (wParts ps) ∧ allP 0 ps = true ∧ Hid (∀ p ∈ ps, p.ty < k) ∧ Mk wr w.heap.size ao n cap ∧ Below w.heap.size w wr) (fun _ kd _ => 6 - (intOf kd).toNat)
  case atStart => exact ⟨1, [], rfl, by omega, by omega, rfl, rfl, by intro p hp; simp at hp, hm0, below_alloc _ _⟩
  case round =>
    obtain ⟨k, ps, rfl, k1, k6, rfl, hall, hlow, hm, hbel⟩ := hrel
    clear hm0
    have hz := hbel.size
    have hsz := wParts_size ps 0 hall
    have hlen := allP_len ps 0 (by omega) (by omega) hall
    by_cases hlt : k ≤ 5
    · go_wp2_with fail
      refine (pickM_any w.heap.size ao n cap 2 _ (by omega) (by omega) hm).mono ?_
      rintro e w1 ⟨a, rfl, a0, a1, hm1, hg1⟩
      have hb1 := Mk.step hbel hz (Nat.le_refl _) hg1
      clear hm hg1
      have ha : a = 0 ∨ a = 1 := by omega
      rcases ha with rfl | rfl
      · go_wp2
        go_roundw
        case rel => exact ⟨k + 1, ps, by go_num, by omega, by omega, rfl, hall, fun p hp => by have := hlow.out p hp; omega, hm1, hb1⟩
        case measure => simp [intOf]; omega
      · by_cases hk2 : k ≤ 2
        · go_wp2_with fail
          refine (prefixM_any w.heap.size ao n cap _ hm1).mono ?_
          rintro e w2 ⟨b, l, rfl, hok, hm2, hg2⟩
          have hb2 := Mk.step hb1 hb1.size (Nat.le_refl _) hg2
          clear hm1 hg2
          go_wp2_with fail
          refine (prefixPart_any _ b l _ (by omega) (by omega) hok).mono ?_
          rintro e w3 ⟨rfl, hb3⟩
          have hs3 := wPref_size b l
          have hs4 : (ch k ++ wPref b l).size ≤ 4 := by rw [ByteArray.size_append, ch_size]; omega
          have hm3 := (hm2.below (below_alloc _ _)).below hb3
          have hbF := (hb2.alloc hb2.size _).trans (hb3.mono (by have := hb2.size; simp; omega))
          clear hm2 hb3 hb2 hb1 hbel
          go_wp2
          go_roundw
          case rel =>
            have hk : hasP (k : Int) = true := by simp [hasP]; omega
            have e : wParts ps ++ (ch k ++ wPref b l) = wParts (ps ++ [⟨k, b, l, []⟩]) := by rw [wParts_snoc]; unfold wPart; dsimp only; rw [if_pos hk]
            refine ⟨k + 1, ps ++ [⟨k, b, l, []⟩], by go_num, by omega, by omega, by rw [← e], ?_, ?_, hm3, hbF⟩
            · exact allP_snoc _ _ _ hall (by simp; omega) (fun p hp => hlow.out p hp) (by unfold isP; dsimp only; rw [if_pos hk]; simp [hok])
            · intro p hp
              rw [List.mem_append, List.mem_singleton] at hp
              rcases hp with hp | rfl
              · have := hlow.out p hp; omega
              · show (k : Int) < ((k + 1 : Nat) : Int); omega
          case measure => simp [intOf]; omega
        · go_wp2_with fail
          refine (termsM_any w.heap.size ao n cap _ _ (by omega) hm1).mono ?_
          rintro e w2 ⟨ts, rfl, t1, t8, hts, hm2, hg2⟩
          have hb2 := Mk.step hb1 hb1.size (Nat.le_refl _) hg2
          have hs3 := wTerms_size ts
          have hs4 : (ch k ++ wTerms ts).size ≤ 25 := by rw [ByteArray.size_append, ch_size]; omega
          clear hm1 hg2
          go_wp2
          go_roundw
          case rel =>
            have hk : hasP (k : Int) = false := by simp [hasP]; omega
            have hk' : hasT (k : Int) = true := by simp [hasT]; omega
            have e : wParts ps ++ (ch k ++ wTerms ts) = wParts (ps ++ [⟨k, 0, 0, ts⟩]) := by rw [wParts_snoc]; unfold wPart; dsimp only; rw [if_neg (by simp [hk])]
            refine ⟨k + 1, ps ++ [⟨k, 0, 0, ts⟩], by go_num, by omega, by omega, by rw [← e], ?_, ?_, hm2, hb2⟩
            · exact allP_snoc _ _ _ hall (by simp; omega) (fun p hp => hlow.out p hp) (by unfold isP areT; dsimp only; rw [if_neg (by simp [hk]), if_pos hk']; simp [hts]; omega)
            · intro p hp
              rw [List.mem_append, List.mem_singleton] at hp
              rcases hp with hp | rfl
              · have := hlow.out p hp; omega
              · show (k : Int) < ((k + 1 : Nat) : Int); omega
          case measure => simp [intOf]; omega
    · by_cases hn0 : ps = []
      · subst hn0
        have he : (wParts []).toList.isEmpty = true := by rw [ByteArray.toList_eq]; rfl
        clear hsz
        go_wp2
        go_ret
        exact ⟨[⟨1, 0, 0, []⟩], congrArg (fun b => Ending.returned (.string b)) all_dst, by decide, hbel⟩
      · have he : (wParts ps).toList.isEmpty = false := by
          rw [ByteArray.toList_eq]
          cases hv : (wParts ps).data.toList with
          | cons a l => rfl
          | nil =>
            exfalso
            have hz0 : (wParts ps).size = 0 := by rw [← bl_len]; unfold bl; rw [hv]; rfl
            cases ps with
            | nil => exact hn0 rfl
            | cons p r => have := wPart_pos p; simp only [wParts, ByteArray.size_append] at hz0; omega
        have hR : isR ps = true := by
          unfold isR; rw [hall]
          cases ps with
          | nil => exact absurd rfl hn0
          | cons p r => simp
        clear hn0
        go_wp2
        go_ret
        exact ⟨ps, rfl, hR, hbel⟩
end Go.Proofs.Ytkdcjcemeipkjaa
