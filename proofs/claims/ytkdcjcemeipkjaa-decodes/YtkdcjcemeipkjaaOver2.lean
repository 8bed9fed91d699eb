import Derived.Test.YtkdcjcemeipkjaaOver1
namespace Go.Proofs.Ytkdcjcemeipkjaa
open Go.RowKit
set_option maxRecDepth 20000

theorem infoTerms : (Try.prog.info? 33).map (fun i => (i.zero, i.size, i.bytes)) = some (some (.slice none 0 0), 1, 24) := by kernel_rfl

/-- A list of terms with its spare room, written full or not. -/
def SpR (w : World) (tv : Value) (done : Bool) (j : Int) : Prop :=
  tv = .slice none 0 0 ∨ ∃ g n cap, tv = .slice (some ⟨g, 0, none⟩) n cap ∧ n ≤ cap ∧ cap ≤ 9223372036854775807 ∧ Full w g 63 cap (if done then cap else 0) (.bool true) (.bool true) (.int .i64 (-9)) (.int .i64 (-9 - j))

theorem SpR.same {w w' : World} {tv : Value} {d : Bool} {j : Int} (h : SpR w tv d j) (hb : ∀ k, tv.ownBlock = some k → w'.heap[k]? = w.heap[k]?) : SpR w' tv d j := by
  rcases h with h | ⟨g, n, cap, rfl, h1, h2, h3⟩
  · exact .inl h
  · exact .inr ⟨g, n, cap, rfl, h1, h2, h3.same (hb g rfl)⟩

theorem SpR.of_owns {w : World} {B : Nat} {tv : Value} {n : Nat} {xs : List Value} (h : w.ownsRow B 63 4 tv n xs) (j : Int) : SpR w tv false j := by
  rcases h.2 with ⟨h, _⟩ | ⟨g, cap, cur, rfl, _, hh, h1, h2, h3, _⟩
  · exact .inl h
  · exact .inr ⟨g, n, cap, rfl, h1, by unfold maxLen at h2; exact h2, cur, hh, h3, fun k hk => absurd hk (by simp)⟩

theorem SpR.lt {w : World} {tv : Value} {d : Bool} {j : Int} (h : SpR w tv d j) : ∀ k, tv.ownBlock = some k → k < w.heap.size := by
  intro k hk
  rcases h with rfl | ⟨g, n, cap, rfl, _, _, h3⟩
  · simp [Value.ownBlock] at hk
  · simp only [Value.ownBlock, Option.some.injEq] at hk
    subst hk; exact h3.lt

def fullOf : Value → Value
  | .slice a _ c => .slice a c c
  | v => v

def InS (qs : List (Pt × Value)) (k : Nat) : Prop := ∃ q ∈ qs, q.2.ownBlock = some k

/-- Where writeOver's outer loop stands. -/
structure WO (w0 : World) (qs : List (Pt × Value)) (i : Nat) (wr : World) (v : Value) : Prop where
  chg : Chg (InS qs) w0 wr
  rows : ∀ j (h : j < qs.length), SpR wr qs[j].2 (decide (j < i)) j
  own : wr.ownsRow w0.heap.size 33 1 v i ((qs.take i).map fun q => fullOf q.2)

theorem WO.start {w : World} {B : Nat} {v : Value} {qs : List (Pt × Value)} (h : RuleAt w B v qs) : WO w qs 0 w (.slice none 0 0) :=
  ⟨Chg.refl _ _, fun _ hj => SpR.of_owns (h.terms _ (List.getElem_mem hj)) _, World.ownsRow_nil _ _ _ _⟩

/-- Where the inner loop stands. -/
structure WI (w0 : World) (qs : List (Pt × Value)) (i : Nat) (g cap k : Nat) (wr : World) (v : Value) : Prop where
  chg : Chg (InS qs) w0 wr
  rows : ∀ j (h : j < qs.length), j ≠ i → SpR wr qs[j].2 (decide (j < i)) j
  row : Full wr g 63 cap k (.bool true) (.bool true) (.int .i64 (-9)) (.int .i64 (-9 - (i : Int)))
  own : wr.ownsRow w0.heap.size 33 1 v i ((qs.take i).map fun q => fullOf q.2)

theorem apart_get {qs : List (Pt × Value)} (h : qs.Pairwise fun x y => x.2.ownBlock = none ∨ x.2.ownBlock ≠ y.2.ownBlock) {i j : Nat} (hi : i < qs.length) (hj : j < qs.length) (hne : j ≠ i) {g : Nat} (hg : qs[i].2.ownBlock = some g) : qs[j].2.ownBlock ≠ some g := by
  rw [List.pairwise_iff_getElem] at h
  intro he
  rcases Nat.lt_or_gt_of_ne hne with hlt | hgt
  · rcases h j i hj hi hlt with h | h
    · rw [he] at h; cases h
    · exact h (by rw [he, hg])
  · rcases h i j hi hj hgt with h | h
    · rw [hg] at h; cases h
    · exact h (by rw [he, hg])

theorem WI.below {w0 wr w' : World} {qs : List (Pt × Value)} {i g cap k : Nat} {v : Value} (h : WI w0 qs i g cap k wr v) (hb : Below wr.heap.size wr w') : WI w0 qs i g cap k w' v :=
  ⟨h.chg.trans (Chg.of_below hb), fun j hj hne => (h.rows j hj hne).same (fun k hk => hb.block k ((h.rows j hj hne).lt k hk)), h.row.same (hb.block g h.row.lt), ownsRow_below h.own hb⟩

theorem WI.step {w0 wr : World} {qs : List (Pt × Value)} {i g cap k : Nat} {v : Value} (h : WI w0 qs i g cap k wr v) (hk : k < cap) (hi : i < qs.length) (hg : qs[i].2.ownBlock = some g) (hg0 : g < w0.heap.size) (hap : qs.Pairwise fun x y => x.2.ownBlock = none ∨ x.2.ownBlock ≠ y.2.ownBlock) :
    WI w0 qs i g cap (k + 1) ((((wr.setCell ⟨g, k * 4, none⟩ (.bool true)).setCell ⟨g, k * 4 + 1, none⟩ (.bool true)).setCell ⟨g, k * 4 + 2, none⟩ (.int .i64 (-9))).setCell ⟨g, k * 4 + 3, none⟩ (.int .i64 (-9 - (i : Int)))) v := by
  have hS : InS qs g := ⟨qs[i], List.getElem_mem hi, hg⟩
  have hblk : ∀ b, b ≠ g → ((((wr.setCell ⟨g, k * 4, none⟩ (.bool true)).setCell ⟨g, k * 4 + 1, none⟩ (.bool true)).setCell ⟨g, k * 4 + 2, none⟩ (.int .i64 (-9))).setCell ⟨g, k * 4 + 3, none⟩ (.int .i64 (-9 - (i : Int)))).heap[b]? = wr.heap[b]? := fun b hb => by
    rw [Below.heap_setCell _ _ _ _ hb, Below.heap_setCell _ _ _ _ hb, Below.heap_setCell _ _ _ _ hb, Below.heap_setCell _ _ _ _ hb]
  refine ⟨?_, ?_, h.row.step hk, ?_⟩
  · exact (((h.chg.trans (Chg.setCell _ hS _)).trans (Chg.setCell _ hS _)).trans (Chg.setCell _ hS _)).trans (Chg.setCell _ hS _)
  · intro j hj hne
    exact (h.rows j hj hne).same (fun b hb => hblk b (fun e => by subst e; exact apart_get hap hi hj hne hg hb))
  · rcases h.own.2 with hn | ⟨g', cap', cur, hv, hbase, hh, r⟩
    · exact ⟨h.own.1, .inl hn⟩
    · exact ⟨h.own.1, .inr ⟨g', cap', cur, hv, hbase, by rw [hblk g' (by omega)]; exact hh, r⟩⟩

theorem WO.inner {w0 wr : World} {qs : List (Pt × Value)} {i g n cap : Nat} {v : Value} (h : WO w0 qs i wr v) (hi : i < qs.length) (he : qs[i].2 = .slice (some ⟨g, 0, none⟩) n cap) : WI w0 qs i g cap 0 wr v := by
  refine ⟨h.chg, fun j hj _ => h.rows j hj, ?_, h.own⟩
  have hr := h.rows i hi
  rw [he] at hr
  rcases hr with hr | ⟨g', n', cap', e, _, _, hf⟩
  · cases hr
  · simp only [Value.slice.injEq, Option.some.injEq, Addr.mk.injEq] at e
    obtain ⟨⟨rfl, _⟩, rfl, rfl⟩ := e
    simpa using hf

theorem WI.outer {w0 wr : World} {qs : List (Pt × Value)} {i g n cap : Nat} {v : Value} (h : WI w0 qs i g cap cap wr v) (hi : i < qs.length) (he : qs[i].2 = .slice (some ⟨g, 0, none⟩) n cap) (h1 : n ≤ cap) (h2 : cap ≤ 9223372036854775807) :
    Chg (InS qs) w0 wr ∧ (∀ j (h : j < qs.length), SpR wr qs[j].2 (decide (j < i + 1)) j) ∧ wr.ownsRow w0.heap.size 33 1 v i ((qs.take i).map fun q => fullOf q.2) := by
  refine ⟨h.chg, ?_, h.own⟩
  intro j hj
  by_cases hne : j = i
  · subst hne
    rw [he]
    exact .inr ⟨g, n, cap, rfl, h1, h2, by simpa using h.row⟩
  · have e : decide (j < i + 1) = decide (j < i) := by by_cases hh : j < i <;> simp <;> omega
    rw [e]
    exact h.rows j hj hne

theorem WO.app {w0 wr w1 : World} {qs : List (Pt × Value)} {i : Nat} {v v1 : Value} {o : Obj} (hi : i < qs.length) (hc : Chg (InS qs) w0 wr) (hr : ∀ j (h : j < qs.length), SpR wr qs[j].2 (decide (j < i + 1)) j) (ho0 : wr.ownsRow w0.heap.size 33 1 v i ((qs.take i).map fun q => fullOf q.2))
    (hlow : ∀ j (h : j < qs.length) k, qs[j].2.ownBlock = some k → k < w0.heap.size) (hg : (wr.alloc o).grownBy w1 v.ownBlock) (ho : w1.ownsRow w0.heap.size 33 1 v1 (i + 1) (((qs.take i).map fun q => fullOf q.2) ++ [fullOf qs[i].2])) : WO w0 qs (i + 1) w1 v1 := by
  have hrow : ∀ k, v.ownBlock = some k → w0.heap.size ≤ k := fun k hk => (ho0.lt k hk).1
  have hsz := hc.size
  have hblk : ∀ k, k < w0.heap.size → w1.heap[k]? = wr.heap[k]? := fun k hk => by
    rw [hg.block k (by simp; omega) (fun e => by have := hrow k e.symm; omega)]
    exact Below.heap_alloc _ _ _ (by omega)
  refine ⟨⟨hg.os.trans hc.os, hg.tape.trans hc.tape, hg.output.trans hc.output, by have := hg.size; simp at this; omega, fun k hk hn => (hblk k hk).trans (hc.block k hk hn)⟩, ?_, ?_⟩
  · intro j hj
    exact (hr j hj).same (fun k hk => hblk k (hlow j hj k hk))
  · rw [List.take_succ_eq_append_getElem hi, List.map_append]
    exact ho

theorem slices_one (a : Option Addr) (n c : Nat) : ∀ u ∈ [Value.slice a n c], u.oneCell' = true := by simp [Value.oneCell']

set_option maxHeartbeats 3200000 in
theorem writeOver_any (w : World) (B : Nat) (ao : Option Addr) (pc : Nat) (qs : List (Pt × Value)) (h : RuleAt w B (.slice ao qs.length pc) qs) (h5 : qs.length ≤ 5) :
    Calls Try.prog 12 #[.slice ao qs.length pc] w fun e w' => ∃ vo vc, e = .returned (.slice vo qs.length vc) ∧ WO w qs qs.length w' (.slice vo qs.length vc) := by
  obtain ⟨i0, hi, hz0, hz1, hz2⟩ := info_parts infoTerms
  have hlow : ∀ j (hj : j < qs.length) k, qs[j].2.ownBlock = some k → k < w.heap.size := fun j hj k hk => ((h.terms _ (List.getElem_mem hj)).lt k hk).2
  have hpart : ∀ j (hj : j < qs.length), ∃ pg, ao = some ⟨pg, 0, none⟩ ∧ pg < w.heap.size ∧ ¬ InS qs pg ∧ w.cell? ⟨pg, 0 + j * 4 + 3, none⟩ = some qs[j].2 := by
    intro j hj
    rcases h.parts.2 with ⟨_, h0⟩ | ⟨g, cap', cur, hv, _, hh, _⟩
    · omega
    · simp only [Value.slice.injEq] at hv
      obtain ⟨rfl, _, _⟩ := hv
      have := h.parts.cells (g := g) rfl (j * 4 + 3) qs[j].2 (by unfold pcells; rw [flat4_at pcell (fun _ => rfl) qs j hj 3 (by omega)]; rfl)
      rw [add0, ← Nat.add_assoc] at this
      refine ⟨g, rfl, lt_of_block hh, ?_, this⟩
      rintro ⟨q, hq, he⟩
      rcases owns_apart (h.terms q hq) h.parts (by decide) with hx | hx
      · rw [he] at hx; cases hx
      · exact hx (by rw [he]; rfl)
  go_enter Try.func12, Try.ntmps12
  go_wp2
  go_loopw [3, 4] (fun v i wr => ∃ j : Nat, i = .int .i64 j ∧ j ≤ qs.length ∧ WO w qs j wr v) (fun _ i _ => qs.length - (intOf i).toNat)
  case atStart => exact ⟨0, rfl, Nat.zero_le _, WO.start h⟩
  case round =>
    obtain ⟨j, rfl, hj, hwo⟩ := hrel
    obtain ⟨vo, vc, rfl⟩ := ownsRow_shape hwo.own
    by_cases hlt : j < qs.length
    · obtain ⟨pg, rfl, hpg, hpn, hpc⟩ := hpart j hlt
      have c3 : wr.cell? ⟨pg, 0 + j * 4 + 3, none⟩ = some qs[j].2 := (hwo.chg.cell hpg hpn).trans hpc
      rw [Nat.zero_add] at c3
      have hrow := hwo.rows j hlt
      have hap := h.apart
      clear hpart hpc
      rcases hrow with hnil | ⟨g, n, cap, heq, hn, hcap, hfull⟩
      · rw [hnil] at c3
        have y2 : ∀ i (hi : i < qs.length), SpR wr qs[i].2 (decide (i < j + 1)) i := by
          intro i hi
          by_cases hne : i = j
          · subst hne; exact .inl hnil
          · have e : decide (i < j + 1) = decide (i < j) := by by_cases hh : i < j <;> simp <;> omega
            rw [e]; exact hwo.rows i hi
        have y1 := hwo.chg
        have y3 := hwo.own
        have hsz := y1.size
        have HQ : Hid (qs[j].2 = .slice none 0 0) := hnil
        clear hnil hwo h
        go_wp2_with fail
        refine wp_loop_rounds 1 ?_
        rw [rounds_succ]
        go_wp2_with (at_builtin; refine wpList_append_own _ rfl _ _ 29 rfl w.heap.size 33 i0 _ 1 24 Try.underlying29 hi hz0 hz1 hz2 rfl (by decide) _ _ _ rfl (y3.alloc _) ⟨wr.heap.size, 0, none⟩ 1 1 [.slice none 0 0] rfl rfl (cell_one_new _ _ _ _ rfl) (slices_one _ _ _) (by unfold maxLen; omega) (by omega) (by simp; omega) ?_; intro v1 w1 ho hg1 _)
        have hwo2 : WO w qs (j + 1) w1 v1 := WO.app hlt y1 y2 y3 hlow hg1 (by rw [HQ.out]; exact ho)
        clear y1 y2 y3 hg1
        go_roundw
        case rel => exact ⟨j + 1, by go_num, by omega, hwo2⟩
        case measure => simp [intOf]; omega
      · rw [heq] at c3
        have hwi := hwo.inner hlt heq
        have hg : qs[j].2.ownBlock = some g := by rw [heq]; rfl
        have hg0 := hlow j hlt g hg
        have HQ : Hid (qs[j].2 = .slice (some ⟨g, 0, none⟩) n cap) := heq
        clear heq hwo hfull h
        go_wp2_with fail
        go_loopw [7] (fun k w2 => ∃ m : Nat, k = .int .i64 m ∧ m ≤ cap ∧ WI w qs j g cap m w2 (.slice vo j vc)) (fun k _ => cap - (intOf k).toNat)
        case atStart => exact ⟨0, rfl, Nat.zero_le _, hwi⟩
        case round =>
          obtain ⟨m, rfl, hm, hwi2⟩ := hrel
          clear hwi c3
          by_cases hmc : m < cap
          · go_wp2_with (go_at_call 28; refine (spoilt_any _ _ (by omega) (by omega)).mono ?_; rintro e w3 ⟨rfl, hb3⟩; have hwi3 := hwi2.below hb3; obtain ⟨x, y, z, u, x0, x1, x2, x3, xf⟩ := hwi3.row.some4 m hmc)
            go_roundw
            case rel => exact ⟨m + 1, by go_num, by omega, hwi3.step hmc hlt hg hg0 hap⟩
            case measure => simp [intOf]; omega
          · have e : m = cap := by omega
            subst e
            obtain ⟨y1, y2, y3⟩ := hwi2.outer hlt HQ.out hn hcap
            have hsz := y1.size
            clear hwi2
            go_wp2_with (at_builtin; refine wpList_append_own _ rfl _ _ 29 rfl w.heap.size 33 i0 _ 1 24 Try.underlying29 hi hz0 hz1 hz2 rfl (by decide) _ _ _ rfl (y3.alloc _) ⟨wr.heap.size, 0, none⟩ 1 1 [.slice (some ⟨g, 0, none⟩) m m] rfl rfl (cell_one_new _ _ _ _ rfl) (slices_one _ _ _) (by unfold maxLen; omega) (by omega) (by simp; omega) ?_; intro v1 w1 ho hg1 _)
            have hwo2 : WO w qs (j + 1) w1 v1 := WO.app hlt y1 y2 y3 hlow hg1 (by rw [HQ.out]; exact ho)
            clear y1 y2 y3 hg1
            go_roundw
            case rel => exact ⟨j + 1, by go_num, by omega, hwo2⟩
            case measure => simp [intOf]; omega
    · have e : j = qs.length := by omega
      subst e
      clear hpart
      go_wp2
      go_ret
      exact ⟨vo, vc, rfl, hwo⟩
end Go.Proofs.Ytkdcjcemeipkjaa
