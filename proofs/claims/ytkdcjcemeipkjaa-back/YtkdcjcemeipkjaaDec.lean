import Derived.Test.YtkdcjcemeipkjaaPart
namespace Go.Proofs.Ytkdcjcemeipkjaa
open Go.RowKit
set_option maxRecDepth 20000

theorem rdTerms_bd (s : ByteArray) (k : Int) : ∀ (n : Nat) (f : Bool) (a : Nat) (ts : List Tm) (m : Nat), rdTerms s k n f a = some (ts, m) → a < m ∧ m ≤ s.size := by
  intro n
  induction n with
  | zero => intro f a ts m h; simp [rdTerms] at h
  | succ n ih =>
    intro f a ts m h
    by_cases hs : a < s.size ∧ mOK (byt s a) k f = true ∧ a + 1 + (vB (mWide (byt s a))).toNat ≤ s.size
    · cases hl : mLast (byt s a)
      · rw [rdTerms_more _ _ _ _ _ hs hl] at h
        cases hr : rdTerms s k n false (a + 1 + (vB (mWide (byt s a))).toNat) with
        | none => rw [hr] at h; cases h
        | some r =>
          rw [hr] at h
          obtain ⟨t1, m1⟩ := r
          have := ih _ _ _ _ hr
          simp at h
          omega
      · rw [rdTerms_last _ _ _ _ _ hs hl] at h
        simp at h
        omega
    · rw [rdTerms_stop _ _ _ _ _ hs] at h; cases h

theorem rdPref_bd (s : ByteArray) (a : Nat) (b l : Int) (m : Nat) (h : rdPref s a = some (b, l, m)) : a < m ∧ m ≤ s.size := by
  unfold rdPref at h
  split at h
  · simp only [] at h
    split at h
    · split at h <;> split at h <;> simp at h <;> omega
    · cases h
  · cases h

theorem rdPart_bd (s : ByteArray) (a : Nat) (p : Pt) (m : Nat) (h : rdPart s a = some (p, m)) : a < m ∧ m ≤ s.size ∧ 1 ≤ p.ty ∧ p.ty ≤ 5 := by
  by_cases ha : a < s.size
  · cases hp : hasP (byt s a)
    · cases ht : hasT (byt s a)
      · rw [rdPart_none s a hp ht] at h; cases h
      · rw [rdPart_terms s a ha hp ht] at h
        cases hr : rdTerms s (byt s a) 8 true (a + 1) with
        | none => rw [hr] at h; cases h
        | some r =>
          rw [hr] at h
          have := rdTerms_bd s _ _ _ _ _ _ hr
          simp only [Option.map_some, Option.some.injEq, Prod.mk.injEq] at h
          obtain ⟨rfl, rfl⟩ := h
          simp only [hasT, decide_eq_true_eq] at ht
          simp only []
          omega
    · rw [rdPart_pref s a ha hp] at h
      cases hr : rdPref s (a + 1) with
      | none => rw [hr] at h; cases h
      | some r =>
        rw [hr] at h
        obtain ⟨b, l, m'⟩ := r
        have := rdPref_bd s _ _ _ _ hr
        simp only [Option.map_some, Option.some.injEq, Prod.mk.injEq] at h
        obtain ⟨rfl, rfl⟩ := h
        simp only [hasP, decide_eq_true_eq] at hp
        simp only []
        omega
  · rw [rdPart_end s a ha] at h; cases h

/-- A rule in memory of the call's own. -/
structure RuleAt (w : World) (B : Nat) (v : Value) (qs : List (Pt × Value)) : Prop where
  parts : w.ownsRow B 35 4 v qs.length (pcells qs)
  terms : ∀ x ∈ qs, w.ownsRow B 63 4 x.2 x.1.ts.length (tcells x.1.ts)
  apart : qs.Pairwise fun x y => x.2.ownBlock = none ∨ x.2.ownBlock ≠ y.2.ownBlock

theorem owns_apart {w : World} {B B' e e' s s' : Nat} {v v' : Value} {n n' : Nat} {xs xs' : List Value} (h : w.ownsRow B e s v n xs) (h' : w.ownsRow B' e' s' v' n' xs') (hne : e ≠ e') : v.ownBlock = none ∨ v.ownBlock ≠ v'.ownBlock := by
  rcases h.2 with ⟨rfl, _⟩ | ⟨g, cap, cur, rfl, _, hg, _⟩
  · exact .inl rfl
  · rcases h'.2 with ⟨rfl, _⟩ | ⟨g', cap', cur', rfl, _, hg', _⟩
    · right; simp [Value.ownBlock]
    · right
      intro he
      simp only [Value.ownBlock, Option.some.injEq] at he
      subst he
      rw [hg] at hg'
      simp at hg'
      exact hne hg'.2

theorem RuleAt.nil (w : World) (B : Nat) : RuleAt w B (.slice none 0 0) [] := ⟨World.ownsRow_nil _ _ _ _, by simp, List.Pairwise.nil⟩

theorem RuleAt.below {w w' : World} {B : Nat} {v : Value} {qs : List (Pt × Value)} (h : RuleAt w B v qs) (hb : Below w.heap.size w w') : RuleAt w' B v qs :=
  ⟨ownsRow_below h.parts hb, fun x hx => ownsRow_below (h.terms x hx) hb, h.apart⟩

theorem RuleAt.base {w : World} {B B' : Nat} {v : Value} {qs : List (Pt × Value)} (h : RuleAt w B v qs) (hb : B' ≤ B) : RuleAt w B' v qs :=
  ⟨ownsRow_base h.parts hb, fun x hx => ownsRow_base (h.terms x hx) hb, h.apart⟩

theorem RuleAt.setLow {w : World} {B : Nat} {v : Value} {qs : List (Pt × Value)} (h : RuleAt w B v qs) {a : Addr} (ha : a.block < B) (u : Value) : RuleAt (w.setCell a u) B v qs :=
  ⟨ownsRow_setCell_below h.parts ha u, fun x hx => ownsRow_setCell_below (h.terms x hx) ha u, h.apart⟩

/-- One part more: its terms' row was made behind all others. -/
theorem RuleAt.snoc {w0 w w1 : World} {B : Nat} {v v' : Value} {qs : List (Pt × Value)} {p : Pt} {tv : Value} (h0 : RuleAt w0 B v qs) (hB : B ≤ w0.heap.size) (hb : Below w0.heap.size w0 w) (ht : w.ownsRow w0.heap.size 63 4 tv p.ts.length (tcells p.ts))
    (hg : w.grownBy w1 v.ownBlock) (hown : w1.ownsRow B 35 4 v' (qs.length + 1) (pcells qs ++ pcell (p, tv))) : RuleAt w1 B v' (qs ++ [(p, tv)]) := by
  have h := h0.below hb
  refine ⟨?_, ?_, ?_⟩
  · rw [pcells_snoc, List.length_append]; exact hown
  · intro x hx
    rw [List.mem_append, List.mem_singleton] at hx
    rcases hx with hx | rfl
    · exact (h.terms x hx).kept hg (owns_apart (h.terms x hx) h.parts (by decide))
    · exact (ownsRow_base ht hB).kept hg (owns_apart (ownsRow_base ht hB) h.parts (by decide))
  · rw [List.pairwise_append]
    refine ⟨h.apart, List.pairwise_singleton _ _, ?_⟩
    intro x hx y hy
    rw [List.mem_singleton] at hy
    subst hy
    cases hxb : x.2.ownBlock with
    | none => exact .inl rfl
    | some g =>
      right
      intro he
      have h1 := ((h0.terms x hx).lt g hxb).2
      have h2 := (ht.lt g he.symm).1
      omega

theorem rdParts_end (s : ByteArray) (n : Nat) (b : Int) (a : Nat) (h : ¬ a < s.size) : rdParts s (n + 1) b a = some [] := by unfold rdParts; rw [if_neg h]
theorem rdParts_no (s : ByteArray) (n : Nat) (b : Int) (a : Nat) (h : a < s.size) (hr : rdPart s a = none) : rdParts s n b a = none := by
  cases n with
  | zero => rfl
  | succ n => unfold rdParts; rw [if_pos h, hr]
theorem rdParts_low (s : ByteArray) (n : Nat) (b : Int) (a : Nat) (p : Pt) (m : Nat) (h : a < s.size) (hr : rdPart s a = some (p, m)) (hl : p.ty ≤ b) : rdParts s n b a = none := by
  cases n with
  | zero => rfl
  | succ n => unfold rdParts; rw [if_pos h, hr]; simp only []; rw [if_pos hl]
theorem rdParts_go (s : ByteArray) (n : Nat) (b : Int) (a : Nat) (p : Pt) (m : Nat) (h : a < s.size) (hr : rdPart s a = some (p, m)) (hl : ¬ p.ty ≤ b) : rdParts s (n + 1) b a = (rdParts s n p.ty m).map (p :: ·) := by
  conv => lhs; unfold rdParts
  rw [if_pos h, hr]; simp only []; rw [if_neg hl]

/-- What has been read, and what is still to come. -/
structure Come (s : ByteArray) (qs : List (Pt × Value)) (b : Int) (q : Nat) : Prop where
  low : (qs.length : Int) ≤ b
  high : b ≤ 5
  place : q ≤ s.size
  none : qs = [] → q = 0
  some : qs ≠ [] → 0 < q
  rest : rdParts s 7 0 0 = (rdParts s (7 - qs.length) b q).map (qs.map Prod.fst ++ ·)

theorem Come.start (s : ByteArray) : Come s [] 0 0 :=
  ⟨by simp, by omega, by omega, fun _ => rfl, fun h => absurd rfl h, by simp⟩

theorem Come.fail1 {s : ByteArray} {qs : List (Pt × Value)} {b : Int} {q : Nat} (h : Come s qs b q) (hq : q < s.size) (hr : rdPart s q = Option.none) : decS s = Option.none := by
  unfold decS; rw [if_neg (by omega), h.rest, rdParts_no _ _ _ _ hq hr]; rfl
theorem Come.fail2 {s : ByteArray} {qs : List (Pt × Value)} {b : Int} {q : Nat} (h : Come s qs b q) (hq : q < s.size) {p : Pt} {m : Nat} (hr : rdPart s q = Option.some (p, m)) (hl : p.ty ≤ b) : decS s = Option.none := by
  unfold decS; rw [if_neg (by omega), h.rest, rdParts_low _ _ _ _ _ _ hq hr hl]; rfl
theorem Come.fail3 {s : ByteArray} {b : Int} {q : Nat} (h : Come s [] b q) (hq : ¬ q < s.size) : decS s = Option.none := by
  unfold decS; rw [if_pos (by have := h.none rfl; omega)]
theorem Come.done {s : ByteArray} {qs : List (Pt × Value)} {b : Int} {q : Nat} (h : Come s qs b q) (hq : ¬ q < s.size) (hn : qs ≠ []) : decS s = Option.some (qs.map Prod.fst) := by
  unfold decS; rw [if_neg (by have := h.some hn; have := h.place; omega), h.rest]
  obtain ⟨n, hn⟩ : ∃ n, 7 - qs.length = n + 1 := ⟨6 - qs.length, by have := h.low; have := h.high; omega⟩
  rw [hn, rdParts_end _ _ _ _ hq]; simp
theorem Come.step {s : ByteArray} {qs : List (Pt × Value)} {b : Int} {q : Nat} (h : Come s qs b q) (hq : q < s.size) {p : Pt} {m : Nat} (hr : rdPart s q = Option.some (p, m)) (hl : ¬ p.ty ≤ b) (tv : Value) : Come s (qs ++ [(p, tv)]) p.ty m := by
  obtain ⟨b1, b2, b3, b4⟩ := rdPart_bd s q p m hr
  have := h.low
  have := h.high
  refine ⟨by simp; omega, b4, b2, fun e => by simp at e, fun _ => by omega, ?_⟩
  rw [h.rest]
  obtain ⟨n, hn⟩ : ∃ n, 7 - qs.length = n + 1 := ⟨6 - qs.length, by omega⟩
  have hn' : 7 - (qs ++ [(p, tv)]).length = n := by simp; omega
  rw [hn', hn, rdParts_go _ _ _ _ _ _ hq hr hl]
  cases rdParts s n p.ty m <;> simp

def DecPost (s : ByteArray) (B : Nat) (e : Ending) (w' : World) : Prop :=
  match decS s with
  | some ps => ∃ v qs, e = .returned (.tuple #[.agg #[v], .int .i64 0]) ∧ qs.map Prod.fst = ps ∧ RuleAt w' B v qs
  | none => e = .returned (.tuple #[.agg #[.slice none 0 0], .int .i64 1])

theorem DecPost.no {s : ByteArray} {B : Nat} {w' : World} (h : Hid (decS s = none)) : DecPost s B (.returned (.tuple #[.agg #[.slice none 0 0], .int .i64 1])) w' := by
  unfold DecPost; rw [h.out]
theorem DecPost.yes {s : ByteArray} {B : Nat} {w' : World} {v : Value} {qs : List (Pt × Value)} (h : Hid (decS s = some (qs.map Prod.fst))) (hr : RuleAt w' B v qs) : DecPost s B (.returned (.tuple #[.agg #[v], .int .i64 0])) w' := by
  unfold DecPost; rw [h.out]; exact ⟨v, qs, rfl, rfl, hr⟩

theorem readPart_no' (s : ByteArray) (q : Nat) (w : World) (hs : s.size ≤ 140737488351232) (ha : q < s.size) (hr : Hid (rdPart s q = none)) :
    Calls Try.prog 26 #[.string s, .int .i64 q] w fun e w' => (∃ x y z n, e = .returned (.tuple #[.agg #[.int .i64 x, .int .i64 y, .int .i64 z, .slice none 0 0], .int .i64 n, .bool false])) ∧ Below w.heap.size w w' :=
  (readPart_any s q w (by omega) hs (by omega)).mono fun e w' ⟨hb, he⟩ => ⟨by unfold PartPost at he; rw [Int.toNat_natCast, hr.out] at he; exact he, hb⟩
theorem readPart_yes' (s : ByteArray) (q : Nat) (w : World) (hs : s.size ≤ 140737488351232) (ha : q < s.size) (p : Pt) (m : Nat) (hr : Hid (rdPart s q = some (p, m))) :
    Calls Try.prog 26 #[.string s, .int .i64 q] w fun e w' => (∃ v, e = .returned (.tuple #[.agg #[.int .i64 p.ty, .int .i64 p.bt, .int .i64 p.ln, v], .int .i64 m, .bool true]) ∧ w'.ownsRow w.heap.size 63 4 v p.ts.length (tcells p.ts)) ∧ Below w.heap.size w w' :=
  (readPart_any s q w (by omega) hs (by omega)).mono fun e w' ⟨hb, he⟩ => ⟨by unfold PartPost at he; rw [Int.toNat_natCast, hr.out] at he; exact he, hb⟩

theorem pcell_one (p : Pt) (v : Value) (h : v.oneCell' = true) : ∀ u ∈ pcell (p, v), u.oneCell' = true := by
  intro u hu
  simp only [pcell, List.mem_cons, List.not_mem_nil, or_false] at hu
  rcases hu with rfl | rfl | rfl | rfl
  · rfl
  · rfl
  · rfl
  · exact h

theorem below_first' {w w' : World} {o : Obj} (h : Below (w.heap.size + 1) (w.alloc o) w') : Below w.heap.size w w' :=
  ((Below.refl _ _).alloc (Nat.le_refl _) _).trans (h.mono (by omega))

theorem cell_four_new' (w : World) (k : Nat) (a b c d : Value) (t : TypeId) (hk : w.heap.size = k) : ∀ j u, [a, b, c, d][j]? = some u → (w.alloc (.cells #[a, b, c, d] t)).cell? ((⟨k, 0, none⟩ : Addr).add j) = some u := by
  subst hk; exact cell_four_new w a b c d t

theorem below_alloc (w : World) (o : Obj) : Below w.heap.size w (w.alloc o) := (Below.refl _ _).alloc (Nat.le_refl _) _

theorem RuleAt.snoc2 {w0 w w1 : World} {B : Nat} {v v' : Value} {qs : List (Pt × Value)} {p : Pt} {tv : Value} {o o' : Obj} (h0 : RuleAt w0 B v qs) (hB : B ≤ w0.heap.size) (hb : Below w0.heap.size w0 w) (ht : w.ownsRow w0.heap.size 63 4 tv p.ts.length (tcells p.ts))
    (hg : ((w.alloc o).alloc o').grownBy w1 v.ownBlock) (hown : w1.ownsRow B 35 4 v' (qs.length + 1) (pcells qs ++ pcell (p, tv))) : RuleAt w1 B v' (qs ++ [(p, tv)]) :=
  h0.snoc hB ((hb.alloc hb.size _).alloc (by have := hb.size; simp; omega) _) ((ht.alloc _).alloc _) hg hown

theorem below_append2 {w0 w wr w1 : World} {B : Nat} {o o' : Obj} {e : TypeId} {size : Nat} {v : Value} {n : Nat} {xs : List Value} (hb : Below B w0 wr) (hown : wr.ownsRow B e size v n xs) (hb1 : Below wr.heap.size wr w) (hz : B ≤ wr.heap.size) (hg : ((w.alloc o).alloc o').grownBy w1 v.ownBlock) : Below B w0 w1 := by
  have h2 := hb1.size
  exact (((hb.trans (hb1.mono hz)).alloc (by omega) o).alloc (by simp; omega) o').grown hg (by simp; omega) (fun k hk => (hown.lt k hk).1)

/-- The part's own variable, behind the append. -/
theorem part_cell {w w1 : World} {o' : Obj} {a b c d : Value} {B : Nat} {e T : TypeId} {size : Nat} {v : Value} {n : Nat} {xs : List Value} (hg : ((w.alloc (.cells #[a, b, c, d] T)).alloc o').grownBy w1 v.ownBlock) (hown : w.ownsRow B e size v n xs) :
    w1.cell? ⟨w.heap.size, 0, none⟩ = some a := by
  refine hg.cell (by simp [go_sem]) ?_
  intro he
  have := (hown.lt _ he.symm).2
  simp at this

set_option maxHeartbeats 1600000 in
theorem decode_any (s : ByteArray) (w : World) (hs : s.size ≤ 140737488351232) :
    Calls Try.prog 10 #[.string s] w fun e w' => Below w.heap.size w w' ∧ DecPost s w.heap.size e w' := by
  obtain ⟨i0, hi, hz0, hz1, hz2⟩ := info_parts infoPart
  go_enter Try.func10, Try.ntmps10
  go_wp2
  go_loopw [4, 5, 6] (fun v b a wr => ∃ (qs : List (Pt × Value)) (bf : Int) (q : Nat), b = .int .i64 bf ∧ a = .int .i64 q ∧ RuleAt wr (w.heap.size + 1) v qs ∧ Below (w.heap.size + 1) (w.alloc (.cells #[.slice none 0 0] 24)) wr ∧ Come s qs bf q)
    (fun _ _ a _ => s.size - (intOf a).toNat)
  case atStart => exact ⟨[], 0, 0, rfl, rfl, RuleAt.nil _ _, Below.refl _ _, Come.start _⟩
  case round =>
    obtain ⟨qs, bf, q, rfl, rfl, hrule, hbel, hcome⟩ := hrel
    obtain ⟨ao, cap, rfl⟩ := ownsRow_shape hrule.parts
    have hz : w.heap.size + 1 ≤ wr.heap.size := by have := hbel.size; simp at this; omega
    have k0 : wr.cell? ⟨w.heap.size, 0, none⟩ = some (.slice none 0 0) := (hbel.cell (by simp)).trans (by simp [go_sem])
    have k1 : wr.frozen? ⟨w.heap.size, 0, none⟩ = false := (hbel.frozen (by simp)).trans (by simp [go_sem])
    have hq := hcome.place
    by_cases h1 : (q : Int) < s.size
    · cases hr : rdPart s q with
      | none =>
        have HD : Hid (decS s = none) := hcome.fail1 (by omega) hr
        have HR : Hid (rdPart s q = none) := hr
        clear hr hcome hrule
        go_wp2_with (go_at_call 26; refine (readPart_no' _ _ _ hs (by omega) HR).mono ?_; rintro e w' ⟨⟨x, y, z, n', rfl⟩, hb1⟩; have c0 : w'.cell? ⟨w.heap.size, 0, none⟩ = some (.slice none 0 0) := (hb1.cell (by simp; omega)).trans k0; have f0 : w'.frozen? ⟨w.heap.size, 0, none⟩ = false := (hb1.frozen (by simp; omega)).trans k1; have z1 : w.heap.size < w'.heap.size := by have := hb1.size; omega)
        refine bodyPost_ret (v := .tuple #[.agg #[.slice none 0 0], .int .i64 1]) (by simp [results, Try.results10, go_sem, c0, z1]) rfl ⟨?_, DecPost.no HD⟩
        exact ((below_first' hbel).trans (hb1.mono (by omega))).setCell (Nat.le_refl _) _ |>.alloc (by simp [World.setCell]; omega) _
      | some r =>
        obtain ⟨p, m⟩ := r
        have HR : Hid (rdPart s q = some (p, m)) := hr
        by_cases hl : p.ty ≤ bf
        · have HD : Hid (decS s = none) := hcome.fail2 (by omega) hr hl
          clear hr hcome hrule
          go_wp2_with (go_at_call 26; refine (readPart_yes' _ _ _ hs (by omega) p m HR).mono ?_; rintro e w' ⟨⟨tv, rfl, ht⟩, hb1⟩; obtain ⟨ta, tc, rfl⟩ := ownsRow_shape ht; have c0 : w'.cell? ⟨w.heap.size, 0, none⟩ = some (.slice none 0 0) := (hb1.cell (by simp; omega)).trans k0; have f0 : w'.frozen? ⟨w.heap.size, 0, none⟩ = false := (hb1.frozen (by simp; omega)).trans k1; have z1 : w.heap.size < w'.heap.size := by have := hb1.size; omega)
          refine bodyPost_ret (v := .tuple #[.agg #[.slice none 0 0], .int .i64 1]) (by simp [results, Try.results10, go_sem, c0, z1]) rfl ⟨?_, DecPost.no HD⟩
          exact ((below_first' hbel).trans (hb1.mono (by omega))).setCell (Nat.le_refl _) _ |>.alloc (by simp [World.setCell]; omega) _
        · have HC : Hid (∀ tv, Come s (qs ++ [(p, tv)]) p.ty m) := fun tv => hcome.step (by omega) hr hl tv
          have hpb := rdPart_bd s q p m hr
          have hlow := hcome.low
          have hhigh := hcome.high
          clear hr hcome
          have hlen : qs.length ≤ 5 := by omega
          go_wp2_with (first
            | (go_at_call 26; refine (readPart_yes' _ _ _ hs (by omega) p m HR).mono ?_; rintro e w' ⟨⟨tv, rfl, ht⟩, hb1⟩; obtain ⟨ta, tc, rfl⟩ := ownsRow_shape ht; have z1 : wr.heap.size ≤ w'.heap.size := hb1.size)
            | (at_builtin; refine wpList_append_own _ rfl _ _ 22 rfl (w.heap.size + 1) 35 i0 _ 4 48 Try.underlying22 hi hz0 hz1 hz2 rfl (by decide) _ _ _ rfl (((ownsRow_below hrule.parts hb1).alloc _).alloc _) ⟨w'.heap.size + 1, 0, none⟩ 1 1 (pcell (p, .slice ta p.ts.length tc)) rfl rfl (cell_four_new' _ _ _ _ _ _ _ (by simp)) (pcell_one _ _ rfl) (by unfold maxLen; omega) (by omega) (by simp; omega) ?_; intro v' w1 hown' hgrow _; have hrule2 := hrule.snoc2 hz hb1 ht hgrow hown'; have hbel2 := below_append2 hbel hrule.parts hb1 hz hgrow; have cT := part_cell hgrow (ownsRow_below hrule.parts hb1); clear hown' hgrow))
          go_roundw
          case rel => exact ⟨_, _, _, rfl, rfl, hrule2, hbel2, HC.out _⟩
          case measure => simp [intOf]; omega
    · by_cases hn : qs = []
      · subst hn
        have HD : Hid (decS s = none) := hcome.fail3 (by omega)
        clear hcome hrule
        go_wp2
        refine bodyPost_ret (v := .tuple #[.agg #[.slice none 0 0], .int .i64 1]) (by simp [results, Try.results10, go_sem, k0]) rfl ⟨?_, DecPost.no HD⟩
        exact (below_first' hbel).setCell (Nat.le_refl _) _
      · have HD : Hid (decS s = some (qs.map Prod.fst)) := hcome.done (by omega) hn
        have hne : ((qs.length : Int) == 0) = false := by cases qs with
          | nil => exact absurd rfl hn
          | cons a l => simp; omega
        clear hcome hn
        go_wp2
        refine bodyPost_ret (v := .tuple #[.agg #[.slice ao qs.length cap], .int .i64 0]) (by simp [results, Try.results10, go_sem, k0]) rfl ⟨?_, DecPost.yes HD ((hrule.setLow (by simp) _).base (by omega))⟩
        exact (below_first' hbel).setCell (Nat.le_refl _) _
end Go.Proofs.Ytkdcjcemeipkjaa
