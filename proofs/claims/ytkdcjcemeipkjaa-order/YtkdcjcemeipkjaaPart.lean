import Derived.Test.YtkdcjcemeipkjaaTerms
namespace Go.Proofs.Ytkdcjcemeipkjaa
open Go.RowKit
set_option maxRecDepth 20000

def PartPost (s : ByteArray) (a0 : Nat) (B : Nat) (e : Ending) (w' : World) : Prop :=
  match rdPart s a0 with
  | some (p, n) => ∃ v, e = .returned (.tuple #[.agg #[.int .i64 p.ty, .int .i64 p.bt, .int .i64 p.ln, v], .int .i64 n, .bool true]) ∧ w'.ownsRow B 63 4 v p.ts.length (tcells p.ts)
  | none => ∃ x y z n, e = .returned (.tuple #[.agg #[.int .i64 x, .int .i64 y, .int .i64 z, .slice none 0 0], .int .i64 n, .bool false])

theorem PartPost.no {s : ByteArray} {a0 B : Nat} {w' : World} (h : Hid (rdPart s a0 = none)) (x y z n : Int) : PartPost s a0 B (.returned (.tuple #[.agg #[.int .i64 x, .int .i64 y, .int .i64 z, .slice none 0 0], .int .i64 n, .bool false])) w' := by
  unfold PartPost; rw [h.out]; exact ⟨x, y, z, n, rfl⟩

theorem PartPost.yes {s : ByteArray} {a0 B : Nat} {w' : World} {p : Pt} {n : Nat} {v : Value} (h : Hid (rdPart s a0 = some (p, n))) (ho : w'.ownsRow B 63 4 v p.ts.length (tcells p.ts)) :
    PartPost s a0 B (.returned (.tuple #[.agg #[.int .i64 p.ty, .int .i64 p.bt, .int .i64 p.ln, v], .int .i64 n, .bool true])) w' := by
  unfold PartPost; rw [h.out]; exact ⟨v, rfl, ho⟩

theorem rdPart_end (s : ByteArray) (a : Nat) (h : ¬ a < s.size) : rdPart s a = none := by unfold rdPart; rw [if_neg h]
theorem rdPart_pref (s : ByteArray) (a : Nat) (h : a < s.size) (hp : hasP (byt s a) = true) : rdPart s a = (rdPref s (a + 1)).map fun r => (⟨byt s a, r.1, r.2.1, []⟩, r.2.2) := by
  unfold rdPart; rw [if_pos h]; simp only []; rw [if_pos hp]
theorem rdPart_terms (s : ByteArray) (a : Nat) (h : a < s.size) (hp : hasP (byt s a) = false) (ht : hasT (byt s a) = true) : rdPart s a = (rdTerms s (byt s a) 8 true (a + 1)).map fun r => (⟨byt s a, 0, 0, r.1⟩, r.2) := by
  unfold rdPart; rw [if_pos h]; simp only []; rw [if_neg (by simp [hp]), if_pos ht]
theorem rdPart_none (s : ByteArray) (a : Nat) (hp : hasP (byt s a) = false) (ht : hasT (byt s a) = false) : rdPart s a = none := by
  unfold rdPart; split
  · simp only []; rw [if_neg (by simp [hp]), if_neg (by simp [ht])]
  · rfl

theorem readPrefix_no' (s : ByteArray) (a : Int) (w : World) (n : Nat) (hn : a.toNat = n) (h0 : 0 ≤ a) (hs : s.size ≤ 140737488351232) (ha : a ≤ 140737488351232) (hr : Hid (rdPref s n = none)) :
    Calls Try.prog 46 #[.string s, .int .i64 a] w fun e w' => e = .returned (.tuple #[.agg #[.int .i64 0, .int .i64 0], .int .i64 a, .bool false]) ∧ Below w.heap.size w w' :=
  (readPrefix_any s a w h0 hs ha).mono fun e w' ⟨hb, he⟩ => ⟨by rw [he, hn, hr.out], hb⟩

theorem readPrefix_yes' (s : ByteArray) (a : Int) (w : World) (n : Nat) (hn : a.toNat = n) (h0 : 0 ≤ a) (hs : s.size ≤ 140737488351232) (ha : a ≤ 140737488351232) (b l : Int) (m : Nat) (hr : Hid (rdPref s n = some (b, l, m))) :
    Calls Try.prog 46 #[.string s, .int .i64 a] w fun e w' => e = .returned (.tuple #[.agg #[.int .i64 b, .int .i64 l], .int .i64 m, .bool true]) ∧ Below w.heap.size w w' :=
  (readPrefix_any s a w h0 hs ha).mono fun e w' ⟨hb, he⟩ => ⟨by rw [he, hn, hr.out], hb⟩

theorem readTerms_no' (s : ByteArray) (a k : Int) (w : World) (n : Nat) (hn : a.toNat = n) (h0 : 0 ≤ a) (hs : s.size ≤ 140737488351232) (ha : a ≤ s.size) (hr : Hid (rdTerms s k 8 true n = none)) :
    Calls Try.prog 48 #[.string s, .int .i64 a, .int .i64 k] w fun e w' => (∃ n', e = .returned (.tuple #[.slice none 0 0, .int .i64 n', .bool false])) ∧ Below w.heap.size w w' :=
  (readTerms_any s a k w h0 hs ha).mono fun e w' ⟨hb, he⟩ => ⟨by unfold TermsPost at he; rw [hn, hr.out] at he; exact he, hb⟩

theorem readTerms_yes' (s : ByteArray) (a k : Int) (w : World) (n : Nat) (hn : a.toNat = n) (h0 : 0 ≤ a) (hs : s.size ≤ 140737488351232) (ha : a ≤ s.size) (ts : List Tm) (m : Nat) (hr : Hid (rdTerms s k 8 true n = some (ts, m))) :
    Calls Try.prog 48 #[.string s, .int .i64 a, .int .i64 k] w fun e w' => (∃ v, e = .returned (.tuple #[v, .int .i64 m, .bool true]) ∧ w'.ownsRow w.heap.size 63 4 v ts.length (tcells ts)) ∧ Below w.heap.size w w' :=
  (readTerms_any s a k w h0 hs ha).mono fun e w' ⟨hb, he⟩ => ⟨by unfold TermsPost at he; rw [hn, hr.out] at he; exact he, hb⟩

theorem cells_of_below {w w1 : World} {a b c d : Value} {t : TypeId} (hb : Below (w.alloc (.cells #[a, b, c, d] t)).heap.size (w.alloc (.cells #[a, b, c, d] t)) w1) :
    w1.cell? ⟨w.heap.size, 0, none⟩ = some a ∧ w1.cell? ⟨w.heap.size, 1, none⟩ = some b ∧ w1.cell? ⟨w.heap.size, 2, none⟩ = some c ∧ w1.cell? ⟨w.heap.size, 3, none⟩ = some d ∧
    (∀ o, w1.frozen? ⟨w.heap.size, o, none⟩ = false) ∧ w.heap.size < w1.heap.size := by
  have hz := hb.size
  refine ⟨?_, ?_, ?_, ?_, fun o => ?_, by simp at hz; omega⟩
  · rw [hb.cell (by simp)]; simp [go_sem]
  · rw [hb.cell (by simp)]; simp [go_sem]
  · rw [hb.cell (by simp)]; simp [go_sem]
  · rw [hb.cell (by simp)]; simp [go_sem]
  · rw [hb.frozen (by simp)]; simp [go_sem]

theorem below_first {w w' : World} {o : Obj} (h : Below (w.alloc o).heap.size (w.alloc o) w') : Below w.heap.size w w' :=
  ((Below.refl _ _).alloc (Nat.le_refl _) _).trans (h.mono (by simp))

theorem below_set4 {w w' : World} (h : Below w.heap.size w w') (a b c d : Value) :
    Below w.heap.size w ((((w'.setCell ⟨w.heap.size, 0, none⟩ a).setCell ⟨w.heap.size, 1, none⟩ b).setCell ⟨w.heap.size, 2, none⟩ c).setCell ⟨w.heap.size, 3, none⟩ d) :=
  (((h.setCell (Nat.le_refl _) _).setCell (Nat.le_refl _) _).setCell (Nat.le_refl _) _).setCell (Nat.le_refl _) _

theorem owns_set4 {w' : World} {B g : Nat} {e : TypeId} {size : Nat} {v : Value} {n : Nat} {xs : List Value} (h : w'.ownsRow B e size v n xs) (hg : g < B) (a b c d : Value) :
    ((((w'.setCell ⟨g, 0, none⟩ a).setCell ⟨g, 1, none⟩ b).setCell ⟨g, 2, none⟩ c).setCell ⟨g, 3, none⟩ d).ownsRow B e size v n xs :=
  ownsRow_setCell_below (ownsRow_setCell_below (ownsRow_setCell_below (ownsRow_setCell_below h hg _) hg _) hg _) hg _

set_option maxHeartbeats 1600000 in
theorem readPart_any (s : ByteArray) (a : Int) (w : World) (h0 : 0 ≤ a) (hs : s.size ≤ 140737488351232) (ha : a < s.size) :
    Calls Try.prog 26 #[.string s, .int .i64 a] w fun e w' => Below w.heap.size w w' ∧ PartPost s a.toNat w.heap.size e w' := by
  obtain ⟨q, rfl⟩ := Int.eq_ofNat_of_zero_le h0
  rw [Int.toNat_natCast]
  have hd1 : decide ((q : Int) < s.size) = true := by simpa using ha
  have eq1 : ((q : Int) + 1).toNat = q + 1 := by omega
  cases hp : hasP (byt s q)
  · cases ht : hasT (byt s q)
    · have HN : Hid (rdPart s q = none) := rdPart_none s q hp ht
      go_enter Try.func26, Try.ntmps26
      go_wp2_with (first
        | (go_at_call 44; refine (byteAt_any _ _ _ (by omega) hs).mono ?_; rintro e w' ⟨rfl, rfl⟩)
        | (go_at_call 45; refine (hasPrefix_any _ _).mono ?_; rintro e w' ⟨rfl, rfl⟩)
        | (go_at_call 47; refine (hasTerms_any _ _).mono ?_; rintro e w' ⟨rfl, rfl⟩))
      refine bodyPost_ret (v := .tuple #[.agg #[.int .i64 0, .int .i64 0, .int .i64 0, .slice none 0 0], .int .i64 q, .bool false]) (by simp [results, Try.results26, go_sem]) rfl ⟨?_, PartPost.no HN _ _ _ _⟩
      exact (Below.refl _ _).alloc (Nat.le_refl _) _
    · have hrd := rdPart_terms s q (by omega) hp ht
      cases hr : rdTerms s (byt s q) 8 true (q + 1) with
      | none =>
        have HN : Hid (rdPart s q = none) := by show rdPart s q = none; rw [hrd, hr]; rfl
        have HR : Hid (rdTerms s (byt s q) 8 true (q + 1) = none) := hr
        clear hr hrd
        go_enter Try.func26, Try.ntmps26
        go_wp2_with (first
          | (go_at_call 44; refine (byteAt_any _ _ _ (by omega) hs).mono ?_; rintro e w' ⟨rfl, rfl⟩)
          | (go_at_call 45; refine (hasPrefix_any _ _).mono ?_; rintro e w' ⟨rfl, rfl⟩)
          | (go_at_call 47; refine (hasTerms_any _ _).mono ?_; rintro e w' ⟨rfl, rfl⟩)
          | (go_at_call 48; refine (readTerms_no' _ _ _ _ (q + 1) (by omega) (by omega) hs (by omega) HR).mono ?_; rintro e w' ⟨⟨n', rfl⟩, hbel⟩; obtain ⟨c0, c1, c2, c3, hf, hz⟩ := cells_of_below hbel))
        refine bodyPost_ret (v := .tuple #[.agg #[.int .i64 (byt s q), .int .i64 0, .int .i64 0, .slice none 0 0], .int .i64 n', .bool false]) (by simp [results, Try.results26, go_sem, c0, c1, c2, c3]) rfl ⟨?_, PartPost.no HN _ _ _ _⟩
        exact below_set4 (below_first hbel) _ _ _ _
      | some r =>
        obtain ⟨ts, m⟩ := r
        have HN : Hid (rdPart s q = some (⟨byt s q, 0, 0, ts⟩, m)) := by show rdPart s q = _; rw [hrd, hr]; rfl
        have HR : Hid (rdTerms s (byt s q) 8 true (q + 1) = some (ts, m)) := hr
        clear hr hrd
        go_enter Try.func26, Try.ntmps26
        go_wp2_with (first
          | (go_at_call 44; refine (byteAt_any _ _ _ (by omega) hs).mono ?_; rintro e w' ⟨rfl, rfl⟩)
          | (go_at_call 45; refine (hasPrefix_any _ _).mono ?_; rintro e w' ⟨rfl, rfl⟩)
          | (go_at_call 47; refine (hasTerms_any _ _).mono ?_; rintro e w' ⟨rfl, rfl⟩)
          | (go_at_call 48; refine (readTerms_yes' _ _ _ _ (q + 1) (by omega) (by omega) hs (by omega) ts m HR).mono ?_; rintro e w' ⟨⟨v, rfl, hown⟩, hbel⟩; obtain ⟨c0, c1, c2, c3, hf, hz⟩ := cells_of_below hbel; obtain ⟨ao, cap, rfl⟩ := ownsRow_shape hown))
        refine bodyPost_ret (v := .tuple #[.agg #[.int .i64 (byt s q), .int .i64 0, .int .i64 0, .slice ao ts.length cap], .int .i64 m, .bool true]) (by simp [results, Try.results26, go_sem, c0, c1, c2, c3]) rfl ⟨?_, PartPost.yes (p := ⟨byt s q, 0, 0, ts⟩) HN ?_⟩
        · exact below_set4 (below_first hbel) _ _ _ _
        · exact ownsRow_base (owns_set4 hown (by simp) _ _ _ _) (by simp)
  · have hrd := rdPart_pref s q (by omega) hp
    cases hr : rdPref s (q + 1) with
    | none =>
      have HN : Hid (rdPart s q = none) := by show rdPart s q = none; rw [hrd, hr]; rfl
      have HR : Hid (rdPref s (q + 1) = none) := hr
      clear hr hrd
      go_enter Try.func26, Try.ntmps26
      go_wp2_with (first
        | (go_at_call 44; refine (byteAt_any _ _ _ (by omega) hs).mono ?_; rintro e w' ⟨rfl, rfl⟩)
        | (go_at_call 45; refine (hasPrefix_any _ _).mono ?_; rintro e w' ⟨rfl, rfl⟩)
        | (go_at_call 46; refine (readPrefix_no' _ _ _ (q + 1) (by omega) (by omega) hs (by omega) HR).mono ?_; rintro e w' ⟨rfl, hbel⟩; obtain ⟨c0, c1, c2, c3, hf, hz⟩ := cells_of_below hbel))
      refine bodyPost_ret (v := .tuple #[.agg #[.int .i64 (byt s q), .int .i64 0, .int .i64 0, .slice none 0 0], .int .i64 (q + 1), .bool false]) (by simp [results, Try.results26, go_sem, c0, c1, c2, c3, hz]) rfl ⟨?_, PartPost.no HN _ _ _ _⟩
      exact (below_set4 (below_first hbel) _ _ _ _).alloc (by simp [World.setCell]; omega) _
    | some r =>
      obtain ⟨b, l, m⟩ := r
      have HN : Hid (rdPart s q = some (⟨byt s q, b, l, []⟩, m)) := by show rdPart s q = _; rw [hrd, hr]; rfl
      have HR : Hid (rdPref s (q + 1) = some (b, l, m)) := hr
      clear hr hrd
      go_enter Try.func26, Try.ntmps26
      go_wp2_with (first
        | (go_at_call 44; refine (byteAt_any _ _ _ (by omega) hs).mono ?_; rintro e w' ⟨rfl, rfl⟩)
        | (go_at_call 45; refine (hasPrefix_any _ _).mono ?_; rintro e w' ⟨rfl, rfl⟩)
        | (go_at_call 46; refine (readPrefix_yes' _ _ _ (q + 1) (by omega) (by omega) hs (by omega) b l m HR).mono ?_; rintro e w' ⟨rfl, hbel⟩; obtain ⟨c0, c1, c2, c3, hf, hz⟩ := cells_of_below hbel))
      refine bodyPost_ret (v := .tuple #[.agg #[.int .i64 (byt s q), .int .i64 b, .int .i64 l, .slice none 0 0], .int .i64 m, .bool true]) (by simp [results, Try.results26, go_sem, c0, c1, c2, c3, hz]) rfl ⟨?_, PartPost.yes (p := ⟨byt s q, b, l, []⟩) HN (World.ownsRow_nil _ _ _ _)⟩
      exact (below_set4 (below_first hbel) _ _ _ _).alloc (by simp [World.setCell]; omega) _
end Go.Proofs.Ytkdcjcemeipkjaa
