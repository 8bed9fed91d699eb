import Derived.Test.YtkdcjcemeipkjaaOver3
namespace Go.Proofs.Ytkdcjcemeipkjaa
open Go.RowKit
set_option maxRecDepth 20000

def dS (s : ByteArray) : List Pt := (decS s).getD []
def eS (s : ByteArray) : Int := if (decS s).isSome then 0 else 1

theorem dS_small (s : ByteArray) : (dS s).length ≤ 5 ∧ ∀ p ∈ dS s, p.ts.length ≤ 140737488351232 := by
  unfold dS
  cases h : decS s with
  | none => simp
  | some ps => have := isR_small (decS_sound s ps h).1; exact ⟨this.1, this.2.2⟩

/-- What both decoders answer. -/
def Dec2 (s : ByteArray) (B : Nat) (e : Ending) (w' : World) : Prop :=
  ∃ ao cap qs, e = .returned (.tuple #[.agg #[.slice ao (dS s).length cap], .int .i64 (eS s)]) ∧ qs.map Prod.fst = dS s ∧ RuleAt w' B (.slice ao (dS s).length cap) qs

theorem Dec2.of {s : ByteArray} {B : Nat} {e : Ending} {w' : World} (h : DecPost s B e w') : Dec2 s B e w' := by
  unfold DecPost at h
  unfold Dec2 dS eS
  cases hd : decS s with
  | none =>
    rw [hd] at h
    exact ⟨none, 0, [], h, rfl, RuleAt.nil _ _⟩
  | some ps =>
    rw [hd] at h
    obtain ⟨v, qs, he, hq, hr⟩ := h
    obtain ⟨ao, cap, rfl⟩ := ownsRow_shape hr.parts
    have hl : qs.length = ps.length := by rw [← hq, List.length_map]
    rw [hl] at he hr
    exact ⟨ao, cap, qs, he, hq, hr⟩

theorem flow2 (s : ByteArray) (w : World) (hs : s.size ≤ 140737488351232) : Calls Try.prog 10 #[.string s] w fun e w' => Below w.heap.size w w' ∧ Dec2 s w.heap.size e w' :=
  (decode_any s w hs).mono fun _ _ h => ⟨h.1, Dec2.of h.2⟩
theorem ref2 (s : ByteArray) (w : World) (hs : s.size ≤ 140737488351232) : Calls Try.prog 9 #[.string s] w fun e w' => Below w.heap.size w w' ∧ Dec2 s w.heap.size e w' :=
  (refDecode_any s w hs).mono fun _ _ h => ⟨h.1, Dec2.of h.2⟩

theorem writeOver2 (w : World) (B : Nat) (ao : Option Addr) (pc n : Nat) (qs : List (Pt × Value)) (hn : qs.length = n) (h : RuleAt w B (.slice ao n pc) qs) (h5 : n ≤ 5) :
    Calls Try.prog 12 #[.slice ao n pc] w fun e w' => ∃ vo vc, e = .returned (.slice vo n vc) ∧ WO w qs n w' (.slice vo n vc) := by
  subst hn; exact writeOver_any w B ao pc qs h h5

theorem over2 (w : World) (B : Nat) (vo : Option Addr) (vc n : Nat) (qs : List (Pt × Value)) (hn : qs.length = n) (hown : w.ownsRow B 33 1 (.slice vo n vc) n (qs.map fun q => fullOf q.2)) (hrows : ∀ j (h : j < qs.length), SpR w qs[j].2 true j) (h5 : n ≤ 5) :
    Calls Try.prog 14 #[.slice vo n vc] w fun e w' => e = .returned (.bool true) ∧ Below w.heap.size w w' := by
  subst hn; exact over_any w B vo vc qs hown hrows h5

theorem RuleAt.reads2 {w : World} {B n : Nat} {ao : Option Addr} {cap : Nat} {qs : List (Pt × Value)} {ps : List Pt} (h : RuleAt w B (.slice ao n cap) qs) (hq : qs.map Prod.fst = ps) (hn : ps.length = n) (hs : ∀ p ∈ ps, p.ts.length ≤ 140737488351232) : PartsIn w ao ps := by
  have hl : qs.length = n := by rw [← hn, ← hq, List.length_map]
  subst hl
  have := h.reads (fun q hq' => hs q.1 (by rw [← hq]; exact List.mem_map_of_mem hq'))
  rwa [hq] at this

/-- The row of parts with its spare room. -/
def PRow (w : World) (ao : Option Addr) (cap m : Nat) : Prop :=
  (ao = none ∧ cap = 0) ∨ ∃ g, ao = some ⟨g, 0, none⟩ ∧ cap ≤ 9223372036854775807 ∧ Full w g 35 cap m (.int .i64 (-9)) (.int .i64 0) (.int .i64 0) (.slice none 0 0)

theorem PRow.of {w : World} {B n n' : Nat} {ao : Option Addr} {cap : Nat} {xs : List Value} (h : w.ownsRow B 35 4 (.slice ao n cap) n' xs) : PRow w ao cap 0 := by
  rcases h.2 with ⟨h, _⟩ | ⟨g, cap', cur, hv, _, hh, _, h2, h3, _⟩
  · simp only [Value.slice.injEq] at h
    exact .inl ⟨h.1, h.2.2⟩
  · simp only [Value.slice.injEq] at hv
    obtain ⟨rfl, _, rfl⟩ := hv
    exact .inr ⟨g, rfl, by unfold maxLen at h2; exact h2, cur, hh, h3, fun k hk => absurd hk (by omega)⟩

theorem PRow.below {w w' : World} {ao : Option Addr} {cap m : Nat} (h : PRow w ao cap m) (hb : Below w.heap.size w w') : PRow w' ao cap m := by
  rcases h with h | ⟨g, h1, h2, h3⟩
  · exact .inl h
  · exact .inr ⟨g, h1, h2, h3.same (hb.block g h3.lt)⟩

def InP (ao : Option Addr) (k : Nat) : Prop := ∃ a, ao = some a ∧ a.block = k

theorem chg_set (w : World) (g o : Nat) (u : Value) : Chg (fun k => k = g) w (w.setCell ⟨g, o, none⟩ u) := Chg.setCell (S := fun k => k = g) w rfl u

theorem RuleAt.own_ge {w : World} {B : Nat} {v : Value} {qs : List (Pt × Value)} (h : RuleAt w B v qs) : ∀ k, InS qs k → B ≤ k ∧ k < w.heap.size := by
  rintro k ⟨q, hq, he⟩
  exact (h.terms q hq).lt k he

set_option maxHeartbeats 1000000 in
theorem decodes_any (s : ByteArray) (w : World) (hs : s.size ≤ 140737488351232) :
    Calls Try.prog 3 #[.string s] w fun e w' => e = .returned (.bool true) ∧ Below w.heap.size w w' := by
  obtain ⟨d5, dts⟩ := dS_small s
  have hne : (eS s == eS s) = true := by simp
  go_enter Try.func3, Try.ntmps3
  go_wp2_with fail
  refine (ref2 s _ hs).mono ?_
  rintro e w1 ⟨hb1, ao1, cap1, qs1, rfl, hq1, hr1⟩
  have hp1 := hr1.reads2 hq1 rfl dts
  go_wp2_with fail
  refine (flow2 s _ hs).mono ?_
  rintro e w2 ⟨hb2, ao2, cap2, qs2, rfl, hq2, hr2⟩
  have hp2 := hr2.reads2 hq2 rfl dts
  have hl2 : qs2.length = (dS s).length := by rw [← hq2, List.length_map]
  -- the variable 'want' stands at w1.heap.size
  have k1 : w2.cell? ⟨w1.heap.size, 0, none⟩ = some (.slice ao1 (dS s).length cap1) := (hb2.cell (by simp)).trans (by simp [go_sem])
  have z2 := hb2.size
  simp only [World.size_alloc] at z2
  have z1 : w1.heap.size < w2.heap.size := by omega
  have hA := (hp1.below (below_alloc _ _)).below hb2
  go_wp2_with fail
  refine (sameParts_eq (dS s) ao2 ao1 cap2 cap1 _ (by omega) (hp2.below (below_alloc _ _)) (hA.below (below_alloc _ _))).mono ?_
  rintro e w3 ⟨rfl, n3, rfl⟩
  go_wp2_with fail
  refine (writeOver2 _ _ ao2 cap2 (dS s).length qs2 hl2 ((hr2.below (below_alloc _ _)).below (below_drewN (Below.refl _ _) n3)) (by omega)).mono ?_
  rintro e w4 ⟨vo, vc, rfl, hwo⟩
  have zs4 := hwo.chg.size
  have zs4' : w2.heap.size + 1 ≤ w4.heap.size := by simpa using zs4
  have hS : ∀ k, InS qs2 k → w1.heap.size + 1 ≤ k ∧ k < w2.heap.size := fun k hk => by have := hr2.own_ge k hk; simpa using this
  have k5r : w4.cell? ⟨w2.heap.size, 0, none⟩ = some (.slice ao2 (dS s).length cap2) := (hwo.chg.cell (by simp) (fun hh => by have := hS w2.heap.size hh; omega)).trans (by simp [go_sem])
  have k4 : w4.cell? ⟨w1.heap.size, 0, none⟩ = some (.slice ao1 (dS s).length cap1) := (hwo.chg.cell (by simp; omega) (fun hh => by have := hS w1.heap.size hh; omega)).trans (by rw [World.cell?_drewN, (below_alloc w2 _).cell (by exact z1)]; exact k1)
  have bel4 : Below w1.heap.size w1 w4 := Chg.below (below_drewN (((below_first hb2).alloc (by omega) _)) n3) hwo.chg (by simp; omega) (fun k hk => by have := hS k hk; omega)
  have zw : w.heap.size ≤ w1.heap.size := hb1.size
  have hpr2 : PRow w2 ao2 cap2 0 := PRow.of hr2.parts
  have own4 := hwo.own
  rw [List.take_of_length_le (by omega)] at own4
  have rows4 : ∀ j (hj : j < qs2.length), SpR w4 qs2[j].2 true j := fun j hj => by
    have := hwo.rows j hj
    rwa [decide_eq_true (by omega)] at this
  have hlowS : ∀ j (hj : j < qs2.length) k, qs2[j].2.ownBlock = some k → InS qs2 k := fun j hj k hk => ⟨qs2[j], List.getElem_mem hj, hk⟩
  rcases hpr2 with ⟨rfl, rfl⟩ | ⟨pg, rfl, hcap, hfull⟩
  · have prow5 : PRow w4 none 0 0 := .inl ⟨rfl, rfl⟩
    obtain ⟨w5, hw5⟩ : ∃ w5, w5 = w4 := ⟨w4, rfl⟩
    subst hw5
    have k5 := k4
    have bel5 := bel4
    have own5 := own4
    have rows5 := rows4
    clear hwo hr2 hp2 hA hb2 hr1 own4 rows4 bel4 hS hlowS k1 k4
    go_wp2_with fail
    refine wp_loop_rounds 1 ?_
    rw [rounds_succ]
    go_wp2_with fail
    refine (flow2 s _ hs).mono ?_
    rintro e w6 ⟨hb6, ao3, cap3, qs3, rfl, hq3, hr3⟩
    have hp3 := hr3.reads2 hq3 rfl dts
    have k6 : w6.cell? ⟨w1.heap.size, 0, none⟩ = some (.slice ao1 (dS s).length cap1) := (hb6.cell (by show w1.heap.size < _; omega)).trans k5
    have z6 := hb6.size
    have z61 : w1.heap.size < w6.heap.size := by omega
    have hA6 := (hp1.below bel5).below hb6
    go_wp2_with fail
    refine (sameParts_eq (dS s) ao3 ao1 cap3 cap1 _ (by omega) (hp3.below (below_alloc _ _)) (hA6.below (below_alloc _ _))).mono ?_
    rintro e w7 ⟨rfl, n7, rfl⟩
    have bel7 : Below w5.heap.size w5 ((w6.alloc (.cells #[.slice ao3 (dS s).length cap3] 24)).drewN n7) := below_drewN (hb6.alloc (by omega) _) _
    go_wp2_with fail
    refine (over2 _ _ vo vc (dS s).length qs2 hl2 (ownsRow_below own5 bel7) (fun j hj => (rows5 j hj).below bel7) (by omega)).mono ?_
    rintro e w8 ⟨rfl, hb8⟩
    have bel8 : Below w5.heap.size w5 w8 := bel7.trans (hb8.mono bel7.size)
    have belF : Below w.heap.size w w8 := (hb1.trans (bel5.mono zw)).trans (bel8.mono (by omega))
    have hf8 := prow5.below bel8
    clear hb6 hb8 hr3 hp3 hA6 hq3 own5 rows5 prow5 bel7 bel8 bel5 k5
    go_wp2_with fail
    refine wp_loop_rounds 1 ?_
    rw [rounds_succ]
    go_wp2
    go_ret
    exact ⟨rfl, belF⟩
  · have hpS : ¬ InS qs2 pg := by
      rintro ⟨q, hq, he⟩
      rcases owns_apart (hr2.terms q hq) hr2.parts (by decide) with hx | hx
      · rw [he] at hx; cases hx
      · exact hx (by rw [he]; rfl)
    have hpg := hfull.lt
    have hpgl : w1.heap.size + 1 ≤ pg := by have := (hr2.parts.lt pg rfl).1; simpa using this
    have hf4 : Full w4 pg 35 cap2 0 (.int .i64 (-9)) (.int .i64 0) (.int .i64 0) (.slice none 0 0) := hfull.same (by
      rw [hwo.chg.block pg (by simp; omega) hpS]
      show (w2.alloc _).heap[pg]? = _
      exact Below.heap_alloc _ _ _ hpg)
    go_wp2_with fail
    go_loopw [10] (fun i wr => ∃ m : Nat, i = .int .i64 m ∧ m ≤ cap2 ∧ Full wr pg 35 cap2 m (.int .i64 (-9)) (.int .i64 0) (.int .i64 0) (.slice none 0 0) ∧ Chg (fun k => k = pg) w4 wr) (fun i _ => cap2 - (intOf i).toNat)
    case atStart => exact ⟨0, rfl, Nat.zero_le _, hf4, Chg.refl _ _⟩
    case round =>
      obtain ⟨m, rfl, hm, hfw, hcw⟩ := hrel
      by_cases hmc : m < cap2
      · clear hwo hr2 hp2 hA hb2 hr1 own4 rows4 bel4 hS hlowS k1 k4 k5r hf4 hfull hp1 hb1
        go_wp2_with (go_at_call 13; refine (spoiltPart_any _).mono ?_; rintro e w5 ⟨rfl, hb5⟩; have hf5 := hfw.same (hb5.block pg hfw.lt); obtain ⟨x, y, z, u, x0, x1, x2, x3, xf⟩ := hf5.some4 m hmc)
        go_roundw
        case rel => exact ⟨m + 1, by go_num, by omega, hf5.step hmc, ((((hcw.trans (Chg.of_below hb5)).trans (chg_set _ _ _ _)).trans (chg_set _ _ _ _)).trans (chg_set _ _ _ _)).trans (chg_set _ _ _ _)⟩
        case measure => simp [intOf]; omega
      · have e : m = cap2 := by omega
        subst e
        obtain ⟨w5, hw5⟩ : ∃ w5, w5 = wr := ⟨wr, rfl⟩
        subst hw5
        have z45 := hcw.size
        have prow5 : PRow w5 (some ⟨pg, 0, none⟩) m m := .inr ⟨pg, rfl, hcap, hfw⟩
        have k5 : w5.cell? ⟨w1.heap.size, 0, none⟩ = some (.slice ao1 (dS s).length cap1) := (hcw.cell (by show w1.heap.size < _; omega) (by show ¬ w1.heap.size = pg; omega)).trans k4
        have bel5 : Below w1.heap.size w1 w5 := Chg.below bel4 hcw (by omega) (fun k hk => by omega)
        have rows5 : ∀ j (hj : j < qs2.length), SpR w5 qs2[j].2 true j := fun j hj => (rows4 j hj).same (fun k hk => hcw.block k ((rows4 j hj).lt k hk) (fun e => hpS (e ▸ hlowS j hj k hk)))
        have own5 : w5.ownsRow (w2.heap.size + 1) 33 1 (.slice vo (dS s).length vc) (dS s).length (qs2.map fun q => fullOf q.2) := by
          refine ⟨own4.1, ?_⟩
          rcases own4.2 with hx | ⟨g', c', cur, hv, hbase, hh, r⟩
          · exact .inl hx
          · have hbase' : w2.heap.size + 1 ≤ g' := by simpa using hbase
            exact .inr ⟨g', c', cur, hv, hbase', by rw [hcw.block g' (lt_of_block hh) (by show ¬ g' = pg; omega)]; exact hh, r⟩
        clear hwo hr2 hp2 hA hb2 hr1 own4 rows4 bel4 hS hlowS k1 k4 k5r hf4 hfull hcw hfw
        go_wp2_with fail
        refine (flow2 s _ hs).mono ?_
        rintro e w6 ⟨hb6, ao3, cap3, qs3, rfl, hq3, hr3⟩
        have hp3 := hr3.reads2 hq3 rfl dts
        have k6 : w6.cell? ⟨w1.heap.size, 0, none⟩ = some (.slice ao1 (dS s).length cap1) := (hb6.cell (by show w1.heap.size < _; omega)).trans k5
        have z6 := hb6.size
        have z61 : w1.heap.size < w6.heap.size := by omega
        have hA6 := (hp1.below bel5).below hb6
        go_wp2_with fail
        refine (sameParts_eq (dS s) ao3 ao1 cap3 cap1 _ (by omega) (hp3.below (below_alloc _ _)) (hA6.below (below_alloc _ _))).mono ?_
        rintro e w7 ⟨rfl, n7, rfl⟩
        have bel7 : Below w5.heap.size w5 ((w6.alloc (.cells #[.slice ao3 (dS s).length cap3] 24)).drewN n7) := below_drewN (hb6.alloc (by omega) _) _
        go_wp2_with fail
        refine (over2 _ _ vo vc (dS s).length qs2 hl2 (ownsRow_below own5 bel7) (fun j hj => (rows5 j hj).below bel7) (by omega)).mono ?_
        rintro e w8 ⟨rfl, hb8⟩
        have bel8 : Below w5.heap.size w5 w8 := bel7.trans (hb8.mono bel7.size)
        have belF : Below w.heap.size w w8 := (hb1.trans (bel5.mono zw)).trans (bel8.mono (by omega))
        have hf8 := prow5.below bel8
        clear hb6 hb8 hr3 hp3 hA6 hq3 own5 rows5 prow5 bel7 bel8 bel5 k5
        go_wp2_with fail
        rcases hf8 with hx | ⟨g, hge, _, hf⟩
        · simp at hx
        · simp only [Option.some.injEq, Addr.mk.injEq] at hge
          obtain ⟨rfl, _⟩ := hge
          go_loop [13, 14] (fun h i => h = .bool true ∧ ∃ q : Nat, i = .int .i64 q ∧ q ≤ m) (fun _ i => m - (intOf i).toNat)
          case atStart => exact ⟨rfl, 0, rfl, Nat.zero_le _⟩
          case round =>
            obtain ⟨rfl, q, rfl, hq⟩ := hrel
            by_cases hqm : q < m
            · obtain ⟨y0, _, _, _⟩ := hf.known q hqm
              go_wp2
              go_round
              case rel => exact ⟨rfl, q + 1, by go_num, by omega⟩
              case measure => simp [intOf]; omega
            · go_wp2
              go_ret
              exact ⟨rfl, belF⟩
end Go.Proofs.Ytkdcjcemeipkjaa
