import Derived.Test.YtkdcjcemeipkjaaMat3
import Derived.Test.YtkdcjcemeipkjaaMat5
import Derived.Test.YtkdcjcemeipkjaaMat6
namespace Go.Proofs.Ytkdcjcemeipkjaa
open Go.RowKit
set_option maxRecDepth 20000

theorem term_any (t : Tm) (k v : Int) (w : World) (ht : isT k t = true) (hv : k = 5 → 0 ≤ v ∧ v ≤ 255) :
    Calls Try.prog 79 #[.int .i64 k, .agg #[.bool t.an, .bool t.wd, .int .i64 t.op, .int .i64 t.vl], .int .i64 v] w fun e w' => e = .returned (.bool (tmH k t v)) ∧ Below w.heap.size w w' := by
  obtain ⟨h0, h1, h2, h3, h4⟩ := isT_op k t ht
  unfold tmH
  by_cases hk : k = 5
  · subst hk
    rw [if_pos rfl]
    obtain ⟨v0, v1⟩ := hv rfl
    have h5 := h4 rfl
    obtain ⟨n, rfl⟩ := Int.eq_ofNat_of_zero_le v0
    obtain ⟨m, hm⟩ := Int.eq_ofNat_of_zero_le h2
    rw [hm]
    rw [h5, hm] at h3
    exact term_flags _ _ _ _ _ _ h0 (by unfold opM at h1; simpa using h1) (by unfold mxV at h3; simp at h3; omega) (by omega)
  · rw [if_neg hk]
    exact term_num _ _ _ _ _ _ _ (by simpa using hk) h0 (by unfold opM at h1; rw [if_neg hk] at h1; exact h1)

theorem term_b (t : Tm) (k v : Int) (w W0 : World) (ht : isT k t = true) (hv : k = 5 → 0 ≤ v ∧ v ≤ 255) (hb : Below W0.heap.size W0 w) :
    Calls Try.prog 79 #[.int .i64 k, .agg #[.bool t.an, .bool t.wd, .int .i64 t.op, .int .i64 t.vl], .int .i64 v] w fun e w' => e = .returned (.bool (tmH k t v)) ∧ Below W0.heap.size W0 w' :=
  (term_any t k v w ht hv).mono fun _ _ h => ⟨h.1, hb.trans (h.2.mono hb.size)⟩

/-- A group from its first term on (f: it is the first one). -/
def gS (k v : Int) : Bool → List Tm → Bool
  | _, [] => true
  | f, t :: r => if f || t.an then tmH k t v && gS k v false r else true

theorem gS_gR (k v : Int) : ∀ ts, gS k v false ts = gR k v ts := by
  intro ts
  induction ts with
  | nil => rfl
  | cons t r ih => simp only [gS, gR, ih, Bool.false_or]

set_option maxHeartbeats 1600000 in
theorem group_any (p : Pt) (i : Nat) (ao : Option Addr) (cap : Nat) (v : Int) (w : World) (hi : i < p.ts.length) (hlen : p.ts.length ≤ 8) (hall : allT p.ty true p.ts = true) (hv : p.ty = 5 → 0 ≤ v ∧ v ≤ 255) (ht : TermsIn w ao p.ts) :
    Calls Try.prog 72 #[.agg #[.int .i64 p.ty, .int .i64 p.bt, .int .i64 p.ln, .slice ao p.ts.length cap], .int .i64 i, .int .i64 v] w fun e w' => e = .returned (.bool (gS p.ty v true (p.ts.drop i))) ∧ Below w.heap.size w w' := by
  go_enter Try.func72, Try.ntmps72
  go_wp2
  go_loopw [7] (fun x wr => ∃ j : Nat, x = .int .i64 j ∧ i ≤ j ∧ j ≤ p.ts.length ∧ Below (w.alloc (.cells #[.int .i64 p.ty, .int .i64 p.bt, .int .i64 p.ln, .slice ao p.ts.length cap] 35)).heap.size (w.alloc (.cells #[.int .i64 p.ty, .int .i64 p.bt, .int .i64 p.ln, .slice ao p.ts.length cap] 35)) wr ∧ Hid (gS p.ty v true (p.ts.drop i) = gS p.ty v (j == i) (p.ts.drop j))) (fun x _ => p.ts.length - (intOf x).toNat)
  case atStart => exact ⟨i, rfl, Nat.le_refl _, by omega, Below.refl _ _, by show _ = _; simp⟩
  case round =>
    obtain ⟨j, rfl, hij, hj, hbel, H⟩ := hrel
    obtain ⟨a0, a1, a2, a3, af, az⟩ := cells_of_below hbel
    have hb0 := below_first hbel
    by_cases hlt : j < p.ts.length
    · obtain ⟨b, off, rfl, c0, c1, c2, c3⟩ := ht.below hb0 j hlt
      have hd : p.ts.drop j = p.ts[j] :: p.ts.drop (j + 1) := List.drop_eq_getElem_cons hlt
      have hT := allT_get _ _ _ hall j hlt
      rw [hd] at H
      clear hd ht hall
      generalize p.ts[j] = t at *
      have hlb : b < wr.heap.size := World.block_lt_of_cell? wr _ c0
      have hje : ((j : Int) == (i : Int)) = (j == i) := by rw [beq_cast]; by_cases hh : j = i <;> simp [hh]
      have HS : Hid (∀ w' : World, Below wr.heap.size wr w' → w'.cell? ⟨w.heap.size, 0, none⟩ = some (.int .i64 p.ty) ∧ w'.cell? ⟨w.heap.size, 3, none⟩ = some (.slice (some ⟨b, off, none⟩) p.ts.length cap) ∧ w'.cell? ⟨b, off + j * 4, none⟩ = some (.bool t.an) ∧ w'.cell? ⟨b, off + j * 4 + 1, none⟩ = some (.bool t.wd) ∧ w'.cell? ⟨b, off + j * 4 + 2, none⟩ = some (.int .i64 t.op) ∧ w'.cell? ⟨b, off + j * 4 + 3, none⟩ = some (.int .i64 t.vl) ∧ Below wr.heap.size wr w') := fun w' hb =>
        ⟨(hb.cell az).trans a0, (hb.cell az).trans a3, (hb.cell hlb).trans c0, (hb.cell hlb).trans c1, (hb.cell hlb).trans c2, (hb.cell hlb).trans c3, hb⟩
      have hz := hbel.size
      cases hg : ((j == i) || t.an)
      · have HF : Hid (gS p.ty v true (p.ts.drop i) = true) := by show _ = _; rw [H.out]; unfold gS; rw [hg]; rfl
        clear H
        have hn : (j == i) = false := by cases hx : (j == i) <;> simp_all
        have hn2 : t.an = false := by cases hx : t.an <;> simp_all
        rw [hn] at hje
        rw [hn2] at c0
        clear hg hn hn2 HS
        go_wp2
        go_ret
        exact ⟨by rw [HF.out]; rfl, hb0⟩
      · cases hr : tmH p.ty t v
        · have HF : Hid (gS p.ty v true (p.ts.drop i) = false) := by show _ = _; rw [H.out]; unfold gS; rw [hg, hr]; rfl
          clear H
          have hjc : ((j : Int) == (i : Int)) = true ∨ (((j : Int) == (i : Int)) = false ∧ t.an = true) := by rw [hje]; cases hx : (j == i) <;> simp_all
          clear hje hg
          rcases hjc with hje | ⟨hje, hn2⟩
          · go_wp2_with fail
            go_region_held3 (fun w' => w'.cell? ⟨w.heap.size, 0, none⟩ = some (.int .i64 p.ty) ∧ w'.cell? ⟨w.heap.size, 3, none⟩ = some (.slice (some ⟨b, off, none⟩) p.ts.length cap) ∧ w'.cell? ⟨b, off + j * 4, none⟩ = some (.bool t.an) ∧ w'.cell? ⟨b, off + j * 4 + 1, none⟩ = some (.bool t.wd) ∧ w'.cell? ⟨b, off + j * 4 + 2, none⟩ = some (.int .i64 t.op) ∧ w'.cell? ⟨b, off + j * 4 + 3, none⟩ = some (.int .i64 t.vl) ∧ Below wr.heap.size wr w')
              (first | exact HS.out _ (by assumption) | exact HS.out _ (Below.refl _ _).drew)
              (first | (go_at_call 79; refine (term_b _ _ _ _ wr hT hv (by go_split_ands; assumption)).mono ?_; rintro e w1 ⟨rfl, hb1⟩; rw [hr]))
            go_wp2
            go_ret
            exact ⟨by rw [HF.out]; rfl, hb0.trans (hb1.mono (by omega))⟩
          · obtain ⟨an, wd, op, vl⟩ := t
            simp only [] at c0 c1 c2 c3 hn2 HS
            subst hn2
            go_wp2_with fail
            go_region_held3 (fun w' => w'.cell? ⟨w.heap.size, 0, none⟩ = some (.int .i64 p.ty) ∧ w'.cell? ⟨w.heap.size, 3, none⟩ = some (.slice (some ⟨b, off, none⟩) p.ts.length cap) ∧ w'.cell? ⟨b, off + j * 4, none⟩ = some (.bool true) ∧ w'.cell? ⟨b, off + j * 4 + 1, none⟩ = some (.bool wd) ∧ w'.cell? ⟨b, off + j * 4 + 2, none⟩ = some (.int .i64 op) ∧ w'.cell? ⟨b, off + j * 4 + 3, none⟩ = some (.int .i64 vl) ∧ Below wr.heap.size wr w')
              (first | exact HS.out _ (by assumption) | exact HS.out _ (Below.refl _ _).drew)
              (first | (go_at_call 79; refine (term_b ⟨_, _, _, _⟩ _ _ _ wr hT hv (by go_split_ands; assumption)).mono ?_; rintro e w1 ⟨rfl, hb1⟩; rw [hr]))
            go_wp2
            go_ret
            exact ⟨by rw [HF.out]; rfl, hb0.trans (hb1.mono (by omega))⟩
        · have HN : Hid (gS p.ty v true (p.ts.drop i) = gS p.ty v (j + 1 == i) (p.ts.drop (j + 1))) := by
            show _ = _
            rw [H.out]
            have hx : (j + 1 == i) = false := beq_eq_false_iff_ne.2 (by omega)
            rw [hx]
            show (if (j == i) || t.an then tmH p.ty t v && gS p.ty v false (p.ts.drop (j + 1)) else true) = _
            rw [hg, hr]
            rfl
          clear H
          have hjc : ((j : Int) == (i : Int)) = true ∨ (((j : Int) == (i : Int)) = false ∧ t.an = true) := by rw [hje]; cases hx : (j == i) <;> simp_all
          clear hje hg
          rcases hjc with hje | ⟨hje, hn2⟩
          · go_wp2_with fail
            go_region_held3 (fun w' => w'.cell? ⟨w.heap.size, 0, none⟩ = some (.int .i64 p.ty) ∧ w'.cell? ⟨w.heap.size, 3, none⟩ = some (.slice (some ⟨b, off, none⟩) p.ts.length cap) ∧ w'.cell? ⟨b, off + j * 4, none⟩ = some (.bool t.an) ∧ w'.cell? ⟨b, off + j * 4 + 1, none⟩ = some (.bool t.wd) ∧ w'.cell? ⟨b, off + j * 4 + 2, none⟩ = some (.int .i64 t.op) ∧ w'.cell? ⟨b, off + j * 4 + 3, none⟩ = some (.int .i64 t.vl) ∧ Below wr.heap.size wr w')
              (first | exact HS.out _ (by assumption) | exact HS.out _ (Below.refl _ _).drew)
              (first | (go_at_call 79; refine (term_b _ _ _ _ wr hT hv (by go_split_ands; assumption)).mono ?_; rintro e w1 ⟨rfl, hb1⟩; rw [hr]))
            go_wp2
            go_roundw
            case rel => exact ⟨j + 1, by go_num, by omega, by omega, hbel.trans (hb1.mono hz), HN⟩
            case measure => simp [intOf]; omega
          · obtain ⟨an, wd, op, vl⟩ := t
            simp only [] at c0 c1 c2 c3 hn2 HS
            subst hn2
            go_wp2_with fail
            go_region_held3 (fun w' => w'.cell? ⟨w.heap.size, 0, none⟩ = some (.int .i64 p.ty) ∧ w'.cell? ⟨w.heap.size, 3, none⟩ = some (.slice (some ⟨b, off, none⟩) p.ts.length cap) ∧ w'.cell? ⟨b, off + j * 4, none⟩ = some (.bool true) ∧ w'.cell? ⟨b, off + j * 4 + 1, none⟩ = some (.bool wd) ∧ w'.cell? ⟨b, off + j * 4 + 2, none⟩ = some (.int .i64 op) ∧ w'.cell? ⟨b, off + j * 4 + 3, none⟩ = some (.int .i64 vl) ∧ Below wr.heap.size wr w')
              (first | exact HS.out _ (by assumption) | exact HS.out _ (Below.refl _ _).drew)
              (first | (go_at_call 79; refine (term_b ⟨_, _, _, _⟩ _ _ _ wr hT hv (by go_split_ands; assumption)).mono ?_; rintro e w1 ⟨rfl, hb1⟩; rw [hr]))
            go_wp2
            go_roundw
            case rel => exact ⟨j + 1, by go_num, by omega, by omega, hbel.trans (hb1.mono hz), HN⟩
            case measure => simp [intOf]; omega
    · have HN : Hid (gS p.ty v true (p.ts.drop i) = true) := by show _ = _; rw [H.out, List.drop_of_length_le (by omega)]; rfl
      clear H ht
      go_wp2
      go_ret
      exact ⟨by rw [HN.out]; rfl, hb0⟩
end Go.Proofs.Ytkdcjcemeipkjaa
