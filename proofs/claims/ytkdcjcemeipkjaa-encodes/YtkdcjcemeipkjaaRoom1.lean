import Derived.Test.YtkdcjcemeipkjaaOver1
import Derived.Laws.CopyOwn
namespace Go.Proofs.Ytkdcjcemeipkjaa
open Go.RowKit
set_option maxRecDepth 20000

/-- copy, of records of any size, into a row that is known whole. -/
theorem run_copy_recs {P : Program} (w : World) (dT sT ty elem : TypeId) (sz g dLen dCap : Nat) (a : Option Addr) (sLen sCap : Nat) (cur : Array Value) (t : TypeId) (cs : List Value)
    (hu : P.underlying dT = some (.slice elem)) (hs : (P.info? elem).map (·.size) = some sz)
    (hg : w.heap[g]? = some (.cells cur t (0, 0))) (hn : cs.length = Nat.min sLen dLen * sz)
    (hsrc : ∀ ad, a = some ad → ∀ j v, cs[j]? = some v → w.cell? (ad.add j) = some v) (hnone : a = none → cs = []) (hfit : cs.length ≤ cur.size) (h1 : ∀ v ∈ cs, v.oneCell' = true) :
    (Builtin.copy_ #[dT, sT] ty #[.slice (some ⟨g, 0, none⟩) dLen dCap, .slice a sLen sCap]).run P w =
      .ok (goInt (Nat.min sLen dLen)) (w.setRow g (cs ++ cur.toList.drop cs.length).toArray) := by
  cases hq : P.info? elem with
  | none => simp [hq] at hs
  | some i =>
    have hi : i.size = sz := by simpa [hq] using hs
    cases a with
    | none =>
      obtain rfl := hnone rfl
      have e : w.setRow g cur = w := setRow_self w g cur t (0, 0) hg
      simp [Builtin.copy_, run_underlying hu, Builtin.lenOf, Builtin.firstCells, sizeOf, typeInfo, hq, storeCells, e]
    | some ad =>
      have hl := run_loadCells_list (P := P) w ad cs (hsrc ad rfl)
      have hst := run_storeCells_at P g 0 t cs 0 cur w hg (by simpa using hfit) h1
      simp at hst
      simp [Builtin.copy_, run_underlying hu, Builtin.lenOf, Builtin.firstCells, sizeOf, typeInfo, hq, hi]
      have e : min sLen dLen * sz = cs.length := by rw [hn]
      rw [e, hl]
      simp [hst]

theorem run_copy_some {P : Program} (w : World) (dT sT ty elem : TypeId) (sz g dLen dCap : Nat) (sp : Option Addr) (sLen sCap : Nat) (cur : Array Value) (t : TypeId) (cs : List Value)
    (hu : P.underlying dT = some (.slice elem)) (hsz : (P.info? elem).map (·.size) = some sz)
    (hg : w.heap[g]? = some (.cells cur t (0, 0))) (hn : cs.length = Nat.min sLen dLen * sz)
    (hsrc : ∀ ad, sp = some ad → ∀ j v, cs[j]? = some v → w.cell? (ad.add j) = some v) (hnone : sp = none → cs = []) (hfit : cs.length ≤ cur.size) (h1 : ∀ v ∈ cs, v.oneCell' = true) :
    ∃ w' v, (Builtin.copy_ #[dT, sT] ty #[.slice (some ⟨g, 0, none⟩) dLen dCap, .slice sp sLen sCap]).run P w = .ok v w' ∧
      (∃ cur' : Array Value, w'.heap[g]? = some (.cells cur' t (0, 0)) ∧ cur'.size = cur.size ∧ ∀ (j : Nat) (v : Value), cs[j]? = some v → cur'[j]? = some v) ∧ Below g w w' ∧ w'.heap.size = w.heap.size := by
  refine ⟨_, _, run_copy_recs (P := P) w dT sT ty elem sz g dLen dCap sp sLen sCap cur t cs hu hsz hg hn hsrc hnone hfit h1, ?_, below_setRow (Below.refl _ _) (Nat.le_refl _) _, by simp [World.setRow]⟩
  refine ⟨_, setRow_heap w g cur _ t _ hg, ?_, ?_⟩
  · simp; omega
  · intro j v hj
    have hlt : j < cs.length := (List.getElem?_eq_some_iff.1 hj).1
    rw [List.getElem?_toArray, List.getElem?_append_left hlt]; exact hj

theorem spoilt_big (i : Int) (w : World) (h0 : 0 ≤ i) (h1 : i ≤ 140737488351232) :
    Calls Try.prog 28 #[.int .i64 i] w fun e w' => e = .returned (.agg #[.bool true, .bool true, .int .i64 (-9), .int .i64 (-9 - i)]) ∧ Below w.heap.size w w' := by
  go_enter Try.func28, Try.ntmps28
  go_wp2
  exact bodyPost_ret (v := .agg #[.bool true, .bool true, .int .i64 (-9), .int .i64 (-9 - i)]) (by simp [results, Try.results28, go_sem]) rfl ⟨rfl, below_alloc _ _⟩

theorem make_parts (n : Nat) (h : n ≤ 5864062014803) (w : World) :
    (Instr.makeSlice 22 (.int .i64 ((n : Int) + 1)) (.int .i64 ((n : Int) + 1))).run Try.prog w = .ok (.slice (some ⟨w.heap.size, 0, none⟩) (n + 1) (n + 1)) (w.alloc (.cells (madeCells (Value.agg #[.int .i64 0, .int .i64 0, .int .i64 0, .slice none 0 0]).cells ((n + 1) * 4)) 35)) := by
  obtain ⟨i0, hi, hz0, hz1, hz2⟩ := info_parts infoPart
  have := run_make (P := Try.prog) w 22 35 i0 _ Try.underlying22 hi hz0 .i64 .i64 ((n : Int) + 1) ((n : Int) + 1) (by omega) (Int.le_refl _) (by rw [hz2]; omega) (by omega)
  rw [this, hz1]
  have e : ((n : Int) + 1).toNat = n + 1 := by omega
  rw [e]

theorem make_terms (n : Nat) (h : n ≤ 11000000000000) (w : World) :
    (Instr.makeSlice 33 (.int .i64 ((n : Int) + 1)) (.int .i64 ((n : Int) + 1))).run Try.prog w = .ok (.slice (some ⟨w.heap.size, 0, none⟩) (n + 1) (n + 1)) (w.alloc (.cells (madeCells (Value.agg #[.bool false, .bool false, .int .i64 0, .int .i64 0]).cells ((n + 1) * 4)) 63)) := by
  obtain ⟨i0, hi, hz0, hz1, hz2⟩ := info_parts infoTerm
  have := run_make (P := Try.prog) w 33 63 i0 _ Try.underlying33 hi hz0 .i64 .i64 ((n : Int) + 1) ((n : Int) + 1) (by omega) (Int.le_refl _) (by rw [hz2]; omega) (by omega)
  rw [this, hz1]
  have e : ((n : Int) + 1).toNat = n + 1 := by omega
  rw [e]

/-- A list of terms in a row of its own, with one spoilt term behind it. -/
def Rm (w : World) (B : Nat) (tv : Value) (ts : List Tm) (j : Int) : Prop :=
  ∃ (g : Nat) (cur : Array Value), tv = .slice (some ⟨g, 0, none⟩) ts.length (ts.length + 1) ∧ B < g ∧ w.heap[g]? = some (.cells cur 63 (0, 0)) ∧
    (∀ (k : Nat) (v : Value), (tcells ts)[k]? = some v → cur[k]? = some v) ∧ cur[ts.length * 4]? = some (.bool true) ∧ cur[ts.length * 4 + 1]? = some (.bool true) ∧ cur[ts.length * 4 + 2]? = some (.int .i64 (-9)) ∧ cur[ts.length * 4 + 3]? = some (.int .i64 (-9 - j))

theorem Rm.same {w w' : World} {B : Nat} {tv : Value} {ts : List Tm} {j : Int} (h : Rm w B tv ts j) (hb : ∀ k, B < k → k < w.heap.size → w'.heap[k]? = w.heap[k]?) : Rm w' B tv ts j := by
  obtain ⟨g, cur, e, hg, hh, r⟩ := h
  exact ⟨g, cur, e, hg, by rw [hb g hg (lt_of_block hh)]; exact hh, r⟩

/-- Where roomy's loop stands. -/
structure RO (w0 : World) (ps : List Pt) (i : Nat) (wr : World) : Prop where
  low : Below w0.heap.size w0 wr
  row : ∃ cur : Array Value, wr.heap[w0.heap.size]? = some (.cells cur 35 (0, 0)) ∧ cur.size = (ps.length + 1) * 4 ∧
    ∀ k (h : k < ps.length), k < i → ∃ tv, cur[k * 4]? = some (.int .i64 ps[k].ty) ∧ cur[k * 4 + 1]? = some (.int .i64 ps[k].bt) ∧ cur[k * 4 + 2]? = some (.int .i64 ps[k].ln) ∧ cur[k * 4 + 3]? = some tv ∧ Rm wr w0.heap.size tv ps[k].ts k

theorem RO.start (w0 : World) (ps : List Pt) (X : Array Value) (hX : X.size = (ps.length + 1) * 4) : RO w0 ps 0 (w0.alloc (.cells X 35)) :=
  ⟨below_alloc _ _, X, by show (w0.heap.push _)[w0.heap.size]? = _; simp, hX, fun _ _ h => absurd h (Nat.not_lt_zero _)⟩

theorem RO.lt {w0 : World} {ps : List Pt} {i : Nat} {wr : World} (h : RO w0 ps i wr) : w0.heap.size < wr.heap.size := by
  obtain ⟨_, cur, hh, _⟩ := h; exact lt_of_block hh

theorem RO.below {w0 : World} {ps : List Pt} {i : Nat} {wr w' : World} (h : RO w0 ps i wr) (hb : Below wr.heap.size wr w') : RO w0 ps i w' := by
  have hl := h.lt
  obtain ⟨hlow, cur, hh, hs, hf⟩ := h
  refine ⟨hlow.trans (hb.mono (by omega)), cur, by rw [hb.block _ hl]; exact hh, hs, ?_⟩
  intro k hk hi
  obtain ⟨tv, c0, c1, c2, c3, hr⟩ := hf k hk hi
  exact ⟨tv, c0, c1, c2, c3, hr.same (fun b _ hb2 => hb.block b hb2)⟩

theorem RO.cells {w0 : World} {ps : List Pt} {i : Nat} {wr : World} (h : RO w0 ps i wr) (k : Nat) (hk : k ≤ ps.length) :
    ∃ x y z u, wr.cell? ⟨w0.heap.size, k * 4, none⟩ = some x ∧ wr.cell? ⟨w0.heap.size, k * 4 + 1, none⟩ = some y ∧ wr.cell? ⟨w0.heap.size, k * 4 + 2, none⟩ = some z ∧ wr.cell? ⟨w0.heap.size, k * 4 + 3, none⟩ = some u ∧ ∀ o, wr.frozen? ⟨w0.heap.size, o, none⟩ = false := by
  obtain ⟨_, cur, hh, hs, _⟩ := h
  have hc : ∀ o (ho : o < cur.size), wr.cell? ⟨w0.heap.size, o, none⟩ = some cur[o] := fun o ho => by rw [cell_of_row wr _ o cur 35 (0, 0) hh]; exact Array.getElem?_eq_getElem ho
  exact ⟨_, _, _, _, hc (k * 4) (by omega), hc (k * 4 + 1) (by omega), hc (k * 4 + 2) (by omega), hc (k * 4 + 3) (by omega), fun o => by simp [World.frozen?, hh]⟩

/-- A record set in a row: what stands at each place behind it. -/
theorem set4_at {cur : Array Value} {m N : Nat} (hs : cur.size = N * 4) (hm : m < N) (a b c d : Value) :
    (((((cur.setIfInBounds (m * 4) a).setIfInBounds (m * 4 + 1) b).setIfInBounds (m * 4 + 2) c).setIfInBounds (m * 4 + 3) d)[m * 4]? = some a ∧
     ((((cur.setIfInBounds (m * 4) a).setIfInBounds (m * 4 + 1) b).setIfInBounds (m * 4 + 2) c).setIfInBounds (m * 4 + 3) d)[m * 4 + 1]? = some b ∧
     ((((cur.setIfInBounds (m * 4) a).setIfInBounds (m * 4 + 1) b).setIfInBounds (m * 4 + 2) c).setIfInBounds (m * 4 + 3) d)[m * 4 + 2]? = some c ∧
     ((((cur.setIfInBounds (m * 4) a).setIfInBounds (m * 4 + 1) b).setIfInBounds (m * 4 + 2) c).setIfInBounds (m * 4 + 3) d)[m * 4 + 3]? = some d) ∧
    ∀ o, o < m * 4 ∨ m * 4 + 4 ≤ o → ((((cur.setIfInBounds (m * 4) a).setIfInBounds (m * 4 + 1) b).setIfInBounds (m * 4 + 2) c).setIfInBounds (m * 4 + 3) d)[o]? = cur[o]? := by
  have ne := @Array.getElem?_setIfInBounds_ne Value
  refine ⟨⟨?_, ?_, ?_, ?_⟩, ?_⟩
  · rw [ne (by omega), ne (by omega), ne (by omega)]; exact Array.getElem?_setIfInBounds_self_of_lt (by simp [hs]; omega)
  · rw [ne (by omega), ne (by omega)]; exact Array.getElem?_setIfInBounds_self_of_lt (by simp [hs]; omega)
  · rw [ne (by omega)]; exact Array.getElem?_setIfInBounds_self_of_lt (by simp [hs]; omega)
  · exact Array.getElem?_setIfInBounds_self_of_lt (by simp [hs]; omega)
  · intro o ho
    rw [ne (by omega), ne (by omega), ne (by omega), ne (by omega)]

theorem set4_heap {w : World} {g o : Nat} {cur : Array Value} {T : TypeId} {a b c d : Value} (h : w.heap[g]? = some (.cells cur T (0, 0))) :
    ((((w.setCell ⟨g, o, none⟩ a).setCell ⟨g, o + 1, none⟩ b).setCell ⟨g, o + 2, none⟩ c).setCell ⟨g, o + 3, none⟩ d).heap[g]? = some (.cells ((((cur.setIfInBounds o a).setIfInBounds (o + 1) b).setIfInBounds (o + 2) c).setIfInBounds (o + 3) d) T (0, 0)) :=
  setCell_heap (setCell_heap (setCell_heap (setCell_heap h)))

theorem set4_other {w : World} {g o : Nat} {a b c d : Value} (k : Nat) (hk : k ≠ g) :
    ((((w.setCell ⟨g, o, none⟩ a).setCell ⟨g, o + 1, none⟩ b).setCell ⟨g, o + 2, none⟩ c).setCell ⟨g, o + 3, none⟩ d).heap[k]? = w.heap[k]? := by
  rw [Below.heap_setCell _ _ _ _ hk, Below.heap_setCell _ _ _ _ hk, Below.heap_setCell _ _ _ _ hk, Below.heap_setCell _ _ _ _ hk]

theorem set4_below {w0 w : World} {B g o : Nat} {a b c d : Value} (hb : Below B w0 w) (hg : B ≤ g) :
    Below B w0 ((((w.setCell ⟨g, o, none⟩ a).setCell ⟨g, o + 1, none⟩ b).setCell ⟨g, o + 2, none⟩ c).setCell ⟨g, o + 3, none⟩ d) :=
  hb.trans ⟨rfl, rfl, rfl, by simp [World.setCell], fun k hk => set4_other k (by omega)⟩

theorem RO.step {w0 wr : World} {ps : List Pt} {j : Nat} (h : RO w0 ps j wr) (hj : j < ps.length) {tv : Value} (hr : Rm wr w0.heap.size tv ps[j].ts j) :
    RO w0 ps (j + 1) ((((wr.setCell ⟨w0.heap.size, j * 4, none⟩ (.int .i64 ps[j].ty)).setCell ⟨w0.heap.size, j * 4 + 1, none⟩ (.int .i64 ps[j].bt)).setCell ⟨w0.heap.size, j * 4 + 2, none⟩ (.int .i64 ps[j].ln)).setCell ⟨w0.heap.size, j * 4 + 3, none⟩ tv) := by
  obtain ⟨hlow, cur, hh, hs, hf⟩ := h
  obtain ⟨⟨e0, e1, e2, e3⟩, eo⟩ := set4_at hs (m := j) (by omega) (.int .i64 ps[j].ty) (.int .i64 ps[j].bt) (.int .i64 ps[j].ln) tv
  refine ⟨set4_below hlow (Nat.le_refl _), _, set4_heap hh, by simp [hs], ?_⟩
  intro k hk hi
  by_cases e : k = j
  · subst e
    exact ⟨tv, e0, e1, e2, e3, hr.same (fun b hb _ => set4_other b (by omega))⟩
  · obtain ⟨tv', c0, c1, c2, c3, hr'⟩ := hf k hk (by omega)
    exact ⟨tv', by rw [eo _ (by omega)]; exact c0, by rw [eo _ (by omega)]; exact c1, by rw [eo _ (by omega)]; exact c2, by rw [eo _ (by omega)]; exact c3, hr'.same (fun b hb _ => set4_other b (by omega))⟩

/-- What roomy makes: the parts, each with its terms in a row of its own, and spare room behind each. -/
def Roomed (w : World) (g : Nat) (ps : List Pt) : Prop :=
  ∃ cur : Array Value, w.heap[g]? = some (.cells cur 35 (0, 0)) ∧ (∀ k (h : k < ps.length), ∃ tv, cur[k * 4]? = some (.int .i64 ps[k].ty) ∧ cur[k * 4 + 1]? = some (.int .i64 ps[k].bt) ∧ cur[k * 4 + 2]? = some (.int .i64 ps[k].ln) ∧ cur[k * 4 + 3]? = some tv ∧ Rm w g tv ps[k].ts k) ∧
    cur[ps.length * 4]? = some (.int .i64 (-9)) ∧ cur[ps.length * 4 + 3]? = some (.slice none 0 0)

theorem RO.done {w0 wr : World} {ps : List Pt} (h : RO w0 ps ps.length wr) (x y : Value) :
    Below w0.heap.size w0 ((((wr.setCell ⟨w0.heap.size, ps.length * 4, none⟩ (.int .i64 (-9))).setCell ⟨w0.heap.size, ps.length * 4 + 1, none⟩ x).setCell ⟨w0.heap.size, ps.length * 4 + 2, none⟩ y).setCell ⟨w0.heap.size, ps.length * 4 + 3, none⟩ (.slice none 0 0)) ∧
    Roomed ((((wr.setCell ⟨w0.heap.size, ps.length * 4, none⟩ (.int .i64 (-9))).setCell ⟨w0.heap.size, ps.length * 4 + 1, none⟩ x).setCell ⟨w0.heap.size, ps.length * 4 + 2, none⟩ y).setCell ⟨w0.heap.size, ps.length * 4 + 3, none⟩ (.slice none 0 0)) w0.heap.size ps := by
  obtain ⟨hlow, cur, hh, hs, hf⟩ := h
  obtain ⟨⟨e0, e1, e2, e3⟩, eo⟩ := set4_at hs (m := ps.length) (by omega) (.int .i64 (-9)) x y (.slice none 0 0)
  refine ⟨set4_below hlow (Nat.le_refl _), _, set4_heap hh, ?_, e0, e3⟩
  intro k hk
  obtain ⟨tv', c0, c1, c2, c3, hr'⟩ := hf k hk hk
  exact ⟨tv', by rw [eo _ (by omega)]; exact c0, by rw [eo _ (by omega)]; exact c1, by rw [eo _ (by omega)]; exact c2, by rw [eo _ (by omega)]; exact c3, hr'.same (fun b hb _ => set4_other b (by omega))⟩

theorem Roomed.below {w w' : World} {g : Nat} {ps : List Pt} (h : Roomed w g ps) (hb : Below w.heap.size w w') : Roomed w' g ps := by
  obtain ⟨cur, hh, hf, e⟩ := h
  refine ⟨cur, by rw [hb.block _ (lt_of_block hh)]; exact hh, ?_, e⟩
  intro k hk
  obtain ⟨tv, c0, c1, c2, c3, hr⟩ := hf k hk
  exact ⟨tv, c0, c1, c2, c3, hr.same (fun b _ h2 => hb.block b h2)⟩

theorem Rm.terms {w : World} {B : Nat} {tv : Value} {ts : List Tm} {j : Int} (h : Rm w B tv ts j) : ∃ g, tv = .slice (some ⟨g, 0, none⟩) ts.length (ts.length + 1) ∧ TermsIn w (some ⟨g, 0, none⟩) ts ∧
    w.cell? ⟨g, ts.length * 4, none⟩ = some (.bool true) ∧ w.cell? ⟨g, ts.length * 4 + 1, none⟩ = some (.bool true) ∧ w.cell? ⟨g, ts.length * 4 + 2, none⟩ = some (.int .i64 (-9)) ∧ w.cell? ⟨g, ts.length * 4 + 3, none⟩ = some (.int .i64 (-9 - j)) := by
  obtain ⟨g, cur, e, hg, hh, hc, s0, s1, s2, s3⟩ := h
  have hcell : ∀ o, w.cell? ⟨g, o, none⟩ = cur[o]? := fun o => cell_of_row w g o cur 63 (0, 0) hh
  refine ⟨g, e, ?_, by rw [hcell]; exact s0, by rw [hcell]; exact s1, by rw [hcell]; exact s2, by rw [hcell]; exact s3⟩
  intro i hi
  have hx : ∀ r, r < 4 → cur[i * 4 + r]? = (tcell ts[i])[r]? := by
    intro r hr
    have := flat4_at tcell (fun _ => rfl) ts i hi r hr
    have h2 : (tcells ts)[i * 4 + r]? = (tcell ts[i])[r]? := by unfold tcells; exact this
    have h3 : r < (tcell ts[i]).length := by simpa [tcell] using hr
    rw [List.getElem?_eq_getElem h3] at h2 ⊢
    exact hc _ _ h2
  refine ⟨g, 0, rfl, ?_, ?_, ?_, ?_⟩
  · rw [hcell, Nat.zero_add]; exact hx 0 (by omega)
  · rw [hcell, Nat.zero_add]; exact hx 1 (by omega)
  · rw [hcell, Nat.zero_add]; exact hx 2 (by omega)
  · rw [hcell, Nat.zero_add]; exact hx 3 (by omega)

theorem Roomed.parts {w : World} {g : Nat} {ps : List Pt} (h : Roomed w g ps) (hl : ∀ p ∈ ps, p.ts.length ≤ 11000000000000) : PartsIn w (some ⟨g, 0, none⟩) ps := by
  obtain ⟨cur, hh, hf, e⟩ := h
  have hcell : ∀ o, w.cell? ⟨g, o, none⟩ = cur[o]? := fun o => cell_of_row w g o cur 35 (0, 0) hh
  intro k hk
  obtain ⟨tv, c0, c1, c2, c3, hr⟩ := hf k hk
  obtain ⟨g', rfl, ht, _⟩ := hr.terms
  have := hl _ (List.getElem_mem hk)
  refine ⟨g, 0, some ⟨g', 0, none⟩, ps[k].ts.length + 1, rfl, ?_, ?_, ?_, ?_, by omega, ht⟩
  · rw [hcell, Nat.zero_add]; exact c0
  · rw [hcell, Nat.zero_add]; exact c1
  · rw [hcell, Nat.zero_add]; exact c2
  · rw [hcell, Nat.zero_add]; exact c3
end Go.Proofs.Ytkdcjcemeipkjaa
