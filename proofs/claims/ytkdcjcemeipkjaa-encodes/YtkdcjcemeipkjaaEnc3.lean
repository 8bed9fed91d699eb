import Derived.Test.YtkdcjcemeipkjaaEnc2
namespace Go.Proofs.Ytkdcjcemeipkjaa
open Go.RowKit
set_option maxRecDepth 20000

/-- The terms lie at ao, whoever owns them. -/
def TermsIn (w : World) (ao : Option Addr) (ts : List Tm) : Prop :=
  ∀ i (h : i < ts.length), ∃ b off, ao = some ⟨b, off, none⟩ ∧ w.cell? ⟨b, off + i * 4, none⟩ = some (.bool ts[i].an) ∧ w.cell? ⟨b, off + i * 4 + 1, none⟩ = some (.bool ts[i].wd) ∧
    w.cell? ⟨b, off + i * 4 + 2, none⟩ = some (.int .i64 ts[i].op) ∧ w.cell? ⟨b, off + i * 4 + 3, none⟩ = some (.int .i64 ts[i].vl)

theorem TermsIn.below {w w' : World} {ao : Option Addr} {ts : List Tm} (h : TermsIn w ao ts) (hb : Below w.heap.size w w') : TermsIn w' ao ts := by
  intro i hi
  obtain ⟨b, off, e, c0, c1, c2, c3⟩ := h i hi
  have hl : b < w.heap.size := World.block_lt_of_cell? w _ c0
  exact ⟨b, off, e, by rw [hb.cell hl]; exact c0, by rw [hb.cell hl]; exact c1, by rw [hb.cell hl]; exact c2, by rw [hb.cell hl]; exact c3⟩

/-- All terms, the first one first. -/
def allT (k : Int) : Bool → List Tm → Bool
  | _, [] => true
  | f, t :: r => !(t.an && f) && isT k t && allT k false r

def areT (k : Int) (ts : List Tm) : Bool := decide (1 ≤ ts.length) && decide (ts.length ≤ 8) && allT k true ts

set_option maxHeartbeats 800000 in
theorem areTerms_any (ts : List Tm) (ao : Option Addr) (cap : Nat) (k : Int) (w : World) (hlen : ts.length ≤ 140737488351232) (ht : TermsIn w ao ts) :
    Calls Try.prog 69 #[.slice ao ts.length cap, .int .i64 k] w fun e w' => e = .returned (.bool (areT k ts)) ∧ Below w.heap.size w w' := by
  by_cases h1 : ts.length < 1
  · have e : areT k ts = false := by unfold areT; simp; omega
    rw [e]; clear e
    go_enter Try.func69, Try.ntmps69
    go_wp2
    go_ret
    exact ⟨rfl, Below.refl _ _⟩
  by_cases h2 : 8 < ts.length
  · have e : areT k ts = false := by unfold areT; simp; omega
    rw [e]; clear e
    go_enter Try.func69, Try.ntmps69
    go_wp2
    go_ret
    exact ⟨rfl, Below.refl _ _⟩
  have e : areT k ts = allT k true ts := by unfold areT; simp; omega
  rw [e]; clear e
  go_enter Try.func69, Try.ntmps69
  go_wp2
  go_loopw [17] (fun i wr => ∃ j : Nat, i = .int .i64 j ∧ j ≤ ts.length ∧ Below w.heap.size w wr ∧ Hid (allT k true ts = allT k (j == 0) (ts.drop j))) (fun i _ => ts.length - (intOf i).toNat)
  case atStart => exact ⟨0, rfl, Nat.zero_le _, Below.refl _ _, rfl⟩
  case round =>
    obtain ⟨j, rfl, hj, hbel, H⟩ := hrel
    by_cases hlt : j < ts.length
    · obtain ⟨b, off, rfl, c0, c1, c2, c3⟩ := ht.below hbel j hlt
      have hd : ts.drop j = ts[j] :: ts.drop (j + 1) := List.drop_eq_getElem_cons hlt
      rw [hd] at H
      clear hd ht
      generalize ts[j] = t at *
      have hz := hbel.size
      obtain ⟨an, wd, op, vl⟩ := t
      simp only [] at c0 c1 c2 c3
      by_cases hj0 : j = 0 ∧ an = true
      · obtain ⟨rfl, rfl⟩ := hj0
        have HF : Hid (allT k true ts = false) := by show _ = _; rw [H.out]; simp [allT]
        clear H
        simp only [Nat.zero_mul, Nat.add_zero] at c0 c1 c2 c3
        go_wp2
        go_ret
        exact ⟨by rw [HF.out]; rfl, hbel.alloc hz _⟩
      · have hg : (an && ((j : Int) == 0)) = false := by cases an <;> simp_all
        have hg' : (an && (j == 0)) = false := by cases an <;> simp_all
        cases hT : isT k ⟨an, wd, op, vl⟩
        · have HF : Hid (allT k true ts = false) := by show _ = _; rw [H.out]; simp [allT, hT]
          clear H hj0
          cases an
          · go_wp2_with (go_at_call 77; refine (isTerm_any ⟨_, _, _, _⟩ _ _).mono ?_; rintro e w1 ⟨rfl, hb1⟩)
            go_ret
            exact ⟨by rw [HF.out]; rfl, (hbel.alloc hz _).trans (hb1.mono (by simp; omega))⟩
          · have hg2 : ((j : Int) == 0) = false := by simpa using hg
            go_wp2_with (go_at_call 77; refine (isTerm_any ⟨_, _, _, _⟩ _ _).mono ?_; rintro e w1 ⟨rfl, hb1⟩)
            go_ret
            exact ⟨by rw [HF.out]; rfl, (hbel.alloc hz _).trans (hb1.mono (by simp; omega))⟩
        · have HN : Hid (allT k true ts = allT k (j + 1 == 0) (ts.drop (j + 1))) := by show _ = _; rw [H.out]; simp [allT, hT, hg']
          clear H hj0 hg'
          cases an
          · go_wp2_with (go_at_call 77; refine (isTerm_any ⟨_, _, _, _⟩ _ _).mono ?_; rintro e w1 ⟨rfl, hb1⟩)
            go_roundw
            case rel => exact ⟨j + 1, by go_num, by omega, (hbel.alloc hz _).trans (hb1.mono (by simp; omega)), HN⟩
            case measure => simp [intOf]; omega
          · have hg2 : ((j : Int) == 0) = false := by simpa using hg
            go_wp2_with (go_at_call 77; refine (isTerm_any ⟨_, _, _, _⟩ _ _).mono ?_; rintro e w1 ⟨rfl, hb1⟩)
            go_roundw
            case rel => exact ⟨j + 1, by go_num, by omega, (hbel.alloc hz _).trans (hb1.mono (by simp; omega)), HN⟩
            case measure => simp [intOf]; omega
    · have HN : Hid (allT k true ts = true) := by show _ = _; rw [H.out, List.drop_of_length_le (by omega)]; rfl
      clear H ht
      go_wp2
      go_ret
      exact ⟨by rw [HN.out]; rfl, hbel⟩
end Go.Proofs.Ytkdcjcemeipkjaa
