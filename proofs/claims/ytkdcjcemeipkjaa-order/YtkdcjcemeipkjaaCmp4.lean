import Derived.Test.YtkdcjcemeipkjaaCmp3
import Derived.Test.YtkdcjcemeipkjaaDecs
namespace Go.Proofs.Ytkdcjcemeipkjaa
open Go.RowKit
set_option maxRecDepth 20000

theorem writePart_b (p : Pt) (ao : Option Addr) (cap : Nat) (w W0 : World) (hp : isP p = true) (ht : TermsIn W0 ao p.ts) (hb : Below W0.heap.size W0 w) :
    Calls Try.prog 30 #[.agg #[.int .i64 p.ty, .int .i64 p.bt, .int .i64 p.ln, .slice ao p.ts.length cap]] w fun e w' => e = .returned (.string (wPart p)) ∧ Below W0.heap.size W0 w' :=
  (writePart_any p ao cap w hp (ht.below hb)).mono fun _ _ h => ⟨h.1, hb.trans (h.2.mono hb.size)⟩

theorem compareBytes_b (s t : ByteArray) (w W0 : World) (hs : s.size ≤ 1000) (hb : Below W0.heap.size W0 w) :
    Calls Try.prog 75 #[.string s, .string t] w fun e w' => e = .returned (.int .i64 (cmpB (bl s) (bl t))) ∧ Below W0.heap.size W0 w' :=
  (compareBytes_any s t w hs).mono fun _ _ h => ⟨h.1, by obtain ⟨n, rfl⟩ := h.2; exact below_drewN hb n⟩

set_option maxHeartbeats 1000000 in
theorem comparePart_any (p q : Pt) (ao bo : Option Addr) (ca cb : Nat) (w : World) (hp : isP p = true) (hq : isP q = true) (ha : TermsIn w ao p.ts) (hb : TermsIn w bo q.ts) :
    Calls Try.prog 61 #[.agg #[.int .i64 p.ty, .int .i64 p.bt, .int .i64 p.ln, .slice ao p.ts.length ca], .agg #[.int .i64 q.ty, .int .i64 q.bt, .int .i64 q.ln, .slice bo q.ts.length cb]] w fun e w' => e = .returned (.int .i64 (cmpP p q)) ∧ Below w.heap.size w w' := by
  unfold cmpP
  by_cases hty : p.ty = q.ty
  · rw [if_pos hty]
    have hbe : (p.ty == q.ty) = true := by simpa using hty
    have HT : Hid (p.ty = q.ty) := hty
    clear hty
    cases hk : hasP p.ty
    · simp only [Bool.false_eq_true, if_false]
      have s1 : (wPart p).size ≤ 1000 := by have := wPart_size hp; omega
      obtain ⟨W0, hW0⟩ : ∃ W0, W0 = (w.alloc (.cells #[.int .i64 p.ty, .int .i64 p.bt, .int .i64 p.ln, .slice ao p.ts.length ca] 35)).alloc (.cells #[.int .i64 q.ty, .int .i64 q.bt, .int .i64 q.ln, .slice bo q.ts.length cb] 35) := ⟨_, rfl⟩
      have b1 : Below (w.alloc (.cells #[.int .i64 p.ty, .int .i64 p.bt, .int .i64 p.ln, .slice ao p.ts.length ca] 35)).heap.size (w.alloc (.cells #[.int .i64 p.ty, .int .i64 p.bt, .int .i64 p.ln, .slice ao p.ts.length ca] 35)) W0 := by rw [hW0]; exact below_alloc _ _
      have b2 : Below W0.heap.size ((w.alloc (.cells #[.int .i64 p.ty, .int .i64 p.bt, .int .i64 p.ln, .slice ao p.ts.length ca] 35)).alloc (.cells #[.int .i64 q.ty, .int .i64 q.bt, .int .i64 q.ln, .slice bo q.ts.length cb] 35)) W0 := by rw [hW0]; exact Below.refl _ _
      obtain ⟨a0, a1, a2, a3, af, az⟩ := cells_of_below b1
      have b3 : Below ((w.alloc (.cells #[.int .i64 p.ty, .int .i64 p.bt, .int .i64 p.ln, .slice ao p.ts.length ca] 35)).alloc (.cells #[.int .i64 q.ty, .int .i64 q.bt, .int .i64 q.ln, .slice bo q.ts.length cb] 35)).heap.size ((w.alloc (.cells #[.int .i64 p.ty, .int .i64 p.bt, .int .i64 p.ln, .slice ao p.ts.length ca] 35)).alloc (.cells #[.int .i64 q.ty, .int .i64 q.bt, .int .i64 q.ln, .slice bo q.ts.length cb] 35)) W0 := by rw [hW0]; exact Below.refl _ _
      obtain ⟨d0, d1, d2, d3, df, dz⟩ := cells_of_below b3
      simp only [World.size_alloc] at d0 d1 d2 d3 dz
      have ha0 := ha.below (below_first b1)
      have hb0 := hb.below (below_first b1)
      have hbw := below_first b1
      have HS : Hid (∀ w' : World, Below W0.heap.size W0 w' → w'.cell? ⟨w.heap.size, 0, none⟩ = some (.int .i64 p.ty) ∧ w'.cell? ⟨w.heap.size, 1, none⟩ = some (.int .i64 p.bt) ∧ w'.cell? ⟨w.heap.size, 2, none⟩ = some (.int .i64 p.ln) ∧ w'.cell? ⟨w.heap.size, 3, none⟩ = some (.slice ao p.ts.length ca) ∧ w'.cell? ⟨w.heap.size + 1, 0, none⟩ = some (.int .i64 q.ty) ∧ w'.cell? ⟨w.heap.size + 1, 1, none⟩ = some (.int .i64 q.bt) ∧ w'.cell? ⟨w.heap.size + 1, 2, none⟩ = some (.int .i64 q.ln) ∧ w'.cell? ⟨w.heap.size + 1, 3, none⟩ = some (.slice bo q.ts.length cb) ∧ Below W0.heap.size W0 w') := fun w' hx =>
        ⟨(hx.cell az).trans a0, (hx.cell az).trans a1, (hx.cell az).trans a2, (hx.cell az).trans a3, (hx.cell dz).trans d0, (hx.cell dz).trans d1, (hx.cell dz).trans d2, (hx.cell dz).trans d3, hx⟩
      clear a1 a2 a3 af d1 d2 d3 df b1 b2 b3 ha hb
      go_enter Try.func61, Try.ntmps61
      go_wp2_with (go_at_call 45; refine (hasPrefix_any _ _).mono ?_; rintro e w' ⟨rfl, rfl⟩; rw [hk])
      rw [← hW0]
      clear hW0
      go_region_held3 (fun w' => w'.cell? ⟨w.heap.size, 0, none⟩ = some (.int .i64 p.ty) ∧ w'.cell? ⟨w.heap.size, 1, none⟩ = some (.int .i64 p.bt) ∧ w'.cell? ⟨w.heap.size, 2, none⟩ = some (.int .i64 p.ln) ∧ w'.cell? ⟨w.heap.size, 3, none⟩ = some (.slice ao p.ts.length ca) ∧ w'.cell? ⟨w.heap.size + 1, 0, none⟩ = some (.int .i64 q.ty) ∧ w'.cell? ⟨w.heap.size + 1, 1, none⟩ = some (.int .i64 q.bt) ∧ w'.cell? ⟨w.heap.size + 1, 2, none⟩ = some (.int .i64 q.ln) ∧ w'.cell? ⟨w.heap.size + 1, 3, none⟩ = some (.slice bo q.ts.length cb) ∧ Below W0.heap.size W0 w')
        (first | exact HS.out _ (by assumption) | exact HS.out _ (Below.refl _ _).drew | exact HS.out _ (Below.refl _ _))
        (first
          | (go_at_call 30; refine (writePart_b _ _ _ _ W0 (by assumption) (by assumption) (by go_split_ands; assumption)).mono ?_; rintro e w1 ⟨rfl, hb1⟩)
          | (go_at_call 75; refine (compareBytes_b _ _ _ W0 s1 (by go_split_ands; assumption)).mono ?_; rintro e w1 ⟨rfl, hb1⟩))
      go_wp2
      go_ret
      exact ⟨rfl, hbw.trans (hb1.mono (by omega))⟩
    · simp only [if_true]
      have hk2 : hasP q.ty = true := by rw [← HT.out]; exact hk
      have o1 := (isP_pref hp hk).2
      have o2 := (isP_pref hq hk2).2
      clear hk2
      go_enter Try.func61, Try.ntmps61
      go_wp2_with (first
        | (go_at_call 45; refine (hasPrefix_any _ _).mono ?_; rintro e w' ⟨rfl, rfl⟩; rw [hk])
        | (go_at_call 74; refine (comparePrefixes_any _ _ _ _ _ o1 o2).mono ?_; rintro e w1 ⟨rfl, hb1⟩))
      go_ret
      exact ⟨rfl, ((below_alloc _ _).alloc (by simp) _).trans (hb1.mono (by simp; omega))⟩
  · rw [if_neg hty]
    have hbe : (p.ty == q.ty) = false := by simpa using hty
    clear hty
    go_enter Try.func61, Try.ntmps61
    go_wp2_with (go_at_call 73; refine (lowerFirst_any _ _ _).mono ?_; rintro e w' ⟨rfl, rfl⟩)
    go_ret
    exact ⟨rfl, (below_alloc _ _).alloc (by simp) _⟩
end Go.Proofs.Ytkdcjcemeipkjaa
