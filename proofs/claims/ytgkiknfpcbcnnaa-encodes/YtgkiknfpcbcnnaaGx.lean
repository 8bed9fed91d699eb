import Derived.Test.YtgkiknfpcbcnnaaGh
import Derived.Laws.CopyOwn
import Derived.Deep.RegionHeld3
import Derived.Test.YtgkiknfpcbcnnaaGf
import Derived.Lib.SmallJoins
import Derived.SizedLaws
import Derived.Deep.Slices
import Derived.Deep.Strs
namespace Go.Proofs.Ytgkiknfpcbcnnaa
open Go.RowKit
set_option maxRecDepth 20000

/-- copy, of records of any size, into a row that is known whole. -/
theorem run_copy_recs {P : Program} (w : World) (dT sT ty elem : TypeId) (sz g dLen dCap : Nat) (a : Option Addr) (sLen sCap : Nat) (cur : Array Value) (t : TypeId) (cs : List Value)
    (hu : P.underlying dT = some (.slice elem)) (hs : (P.info? elem).map (·.size) = some sz)
    (hg : w.heap[g]? = some (.cells cur t (0, 0))) (hn : cs.length = Nat.min sLen dLen * sz)
    (hsrc : ∀ ad, a = some ad → ∀ j v, cs[j]? = some v → w.cell? (ad.add j) = some v) (hnone : a = none → cs = []) (hfit : cs.length ≤ cur.size) (h1 : ∀ v ∈ cs, v.oneCell' = true) :
    (Builtin.copy_ #[dT, sT] ty #[.slice (some ⟨g, 0, none⟩) dLen dCap, .slice a sLen sCap]).run P w =
      .ok (goInt (Nat.min sLen dLen)) (w.setRow g (cs ++ cur.toList.drop cs.length).toArray) := by
  cases hq : P.info? elem with
  | none => simp [hq] at hs
  | some i =>
    have hi : i.size = sz := by simpa [hq] using hs
    cases a with
    | none =>
      obtain rfl := hnone rfl
      have e : w.setRow g cur = w := setRow_self w g cur t (0, 0) hg
      simp [Builtin.copy_, run_underlying hu, Builtin.lenOf, Builtin.firstCells, sizeOf, typeInfo, hq, storeCells, e]
    | some ad =>
      have hl := run_loadCells_list (P := P) w ad cs (hsrc ad rfl)
      have hst := run_storeCells_at P g 0 t cs 0 cur w hg (by simpa using hfit) h1
      simp at hst
      simp [Builtin.copy_, run_underlying hu, Builtin.lenOf, Builtin.firstCells, sizeOf, typeInfo, hq, hi]
      have e : min sLen dLen * sz = cs.length := by rw [hn]
      rw [e, hl]
      simp [hst]

theorem run_copy_some {P : Program} (w : World) (dT sT ty elem : TypeId) (sz g dLen dCap : Nat) (sp : Option Addr) (sLen sCap : Nat) (cur : Array Value) (t : TypeId) (cs : List Value)
    (hu : P.underlying dT = some (.slice elem)) (hsz : (P.info? elem).map (·.size) = some sz)
    (hg : w.heap[g]? = some (.cells cur t (0, 0))) (hn : cs.length = Nat.min sLen dLen * sz)
    (hsrc : ∀ ad, sp = some ad → ∀ j v, cs[j]? = some v → w.cell? (ad.add j) = some v) (hnone : sp = none → cs = []) (hfit : cs.length ≤ cur.size) (h1 : ∀ v ∈ cs, v.oneCell' = true) :
    ∃ w' v, (Builtin.copy_ #[dT, sT] ty #[.slice (some ⟨g, 0, none⟩) dLen dCap, .slice sp sLen sCap]).run P w = .ok v w' ∧
      (∃ cur' : Array Value, w'.heap[g]? = some (.cells cur' t (0, 0)) ∧ cur'.size = cur.size ∧ ∀ (j : Nat) (v : Value), cs[j]? = some v → cur'[j]? = some v) ∧ Below g w w' ∧ w'.heap.size = w.heap.size := by
  refine ⟨_, _, run_copy_recs (P := P) w dT sT ty elem sz g dLen dCap sp sLen sCap cur t cs hu hsz hg hn hsrc hnone hfit h1, ?_, below_setRow (Below.refl _ _) (Nat.le_refl _) _, by simp [World.setRow]⟩
  refine ⟨_, setRow_heap w g cur _ t _ hg, ?_, ?_⟩
  · simp; omega
  · intro j v hj
    have hlt : j < cs.length := (List.getElem?_eq_some_iff.1 hj).1
    rw [List.getElem?_toArray, List.getElem?_append_left hlt]; exact hj

theorem spoilt_big (i : Int) (w : World) (h0 : 0 ≤ i) (h1 : i ≤ 140737488351232) :
    Calls Try.prog 44 #[.int .i64 i] w fun e w' => e = .returned (.agg #[.bool true, .bool true, .int .i64 (-9), .int .i64 (-9 - i)]) ∧ Below w.heap.size w w' := by
  go_enter Try.func44, Try.ntmps44
  go_wp2
  exact bodyPost_ret (v := .agg #[.bool true, .bool true, .int .i64 (-9), .int .i64 (-9 - i)]) (by simp [results, Try.results44, go_sem]) rfl ⟨rfl, below_alloc _ _⟩

theorem make_parts (n : Nat) (h : n ≤ 5864062014803) (w : World) :
    (Instr.makeSlice 22 (.int .i64 ((n : Int) + 1)) (.int .i64 ((n : Int) + 1))).run Try.prog w = .ok (.slice (some ⟨w.heap.size, 0, none⟩) (n + 1) (n + 1)) (w.alloc (.cells (madeCells (Value.agg #[.int .i64 0, .int .i64 0, .int .i64 0, .slice none 0 0]).cells ((n + 1) * 4)) 35)) := by
  obtain ⟨i0, hi, hz0, hz1, hz2⟩ := info_parts infoPart
  have := run_make (P := Try.prog) w 22 35 i0 _ Try.underlying22 hi hz0 .i64 .i64 ((n : Int) + 1) ((n : Int) + 1) (by omega) (Int.le_refl _) (by rw [hz2]; omega) (by omega)
  rw [this, hz1]
  have e : ((n : Int) + 1).toNat = n + 1 := by omega
  rw [e]

theorem make_terms (n : Nat) (h : n ≤ 11000000000000) (w : World) :
    (Instr.makeSlice 33 (.int .i64 ((n : Int) + 1)) (.int .i64 ((n : Int) + 1))).run Try.prog w = .ok (.slice (some ⟨w.heap.size, 0, none⟩) (n + 1) (n + 1)) (w.alloc (.cells (madeCells (Value.agg #[.bool false, .bool false, .int .i64 0, .int .i64 0]).cells ((n + 1) * 4)) 71)) := by
  obtain ⟨i0, hi, hz0, hz1, hz2⟩ := info_parts infoTerm
  have := run_make (P := Try.prog) w 33 71 i0 _ Try.underlying33 hi hz0 .i64 .i64 ((n : Int) + 1) ((n : Int) + 1) (by omega) (Int.le_refl _) (by rw [hz2]; omega) (by omega)
  rw [this, hz1]
  have e : ((n : Int) + 1).toNat = n + 1 := by omega
  rw [e]

/-- A list of terms in a row of its own, with one spoilt term behind it. -/
def Rm (w : World) (B : Nat) (tv : Value) (ts : List Tm) (j : Int) : Prop :=
  ∃ (g : Nat) (cur : Array Value), tv = .slice (some ⟨g, 0, none⟩) ts.length (ts.length + 1) ∧ B < g ∧ w.heap[g]? = some (.cells cur 71 (0, 0)) ∧
    (∀ (k : Nat) (v : Value), (tcells ts)[k]? = some v → cur[k]? = some v) ∧ cur[ts.length * 4]? = some (.bool true) ∧ cur[ts.length * 4 + 1]? = some (.bool true) ∧ cur[ts.length * 4 + 2]? = some (.int .i64 (-9)) ∧ cur[ts.length * 4 + 3]? = some (.int .i64 (-9 - j))

theorem Rm.same {w w' : World} {B : Nat} {tv : Value} {ts : List Tm} {j : Int} (h : Rm w B tv ts j) (hb : ∀ k, B < k → k < w.heap.size → w'.heap[k]? = w.heap[k]?) : Rm w' B tv ts j := by
  obtain ⟨g, cur, e, hg, hh, r⟩ := h
  exact ⟨g, cur, e, hg, by rw [hb g hg (lt_of_block hh)]; exact hh, r⟩

/-- Where roomy's loop stands. -/
structure RO (w0 : World) (ps : List Pt) (i : Nat) (wr : World) : Prop where
  low : Below w0.heap.size w0 wr
  row : ∃ cur : Array Value, wr.heap[w0.heap.size]? = some (.cells cur 35 (0, 0)) ∧ cur.size = (ps.length + 1) * 4 ∧
    ∀ k (h : k < ps.length), k < i → ∃ tv, cur[k * 4]? = some (.int .i64 ps[k].ty) ∧ cur[k * 4 + 1]? = some (.int .i64 ps[k].bt) ∧ cur[k * 4 + 2]? = some (.int .i64 ps[k].ln) ∧ cur[k * 4 + 3]? = some tv ∧ Rm wr w0.heap.size tv ps[k].ts k

theorem RO.start (w0 : World) (ps : List Pt) (X : Array Value) (hX : X.size = (ps.length + 1) * 4) : RO w0 ps 0 (w0.alloc (.cells X 35)) :=
  ⟨below_alloc _ _, X, by show (w0.heap.push _)[w0.heap.size]? = _; simp, hX, fun _ _ h => absurd h (Nat.not_lt_zero _)⟩

theorem RO.lt {w0 : World} {ps : List Pt} {i : Nat} {wr : World} (h : RO w0 ps i wr) : w0.heap.size < wr.heap.size := by
  obtain ⟨_, cur, hh, _⟩ := h; exact lt_of_block hh

theorem RO.below {w0 : World} {ps : List Pt} {i : Nat} {wr w' : World} (h : RO w0 ps i wr) (hb : Below wr.heap.size wr w') : RO w0 ps i w' := by
  have hl := h.lt
  obtain ⟨hlow, cur, hh, hs, hf⟩ := h
  refine ⟨hlow.trans (hb.mono (by omega)), cur, by rw [hb.block _ hl]; exact hh, hs, ?_⟩
  intro k hk hi
  obtain ⟨tv, c0, c1, c2, c3, hr⟩ := hf k hk hi
  exact ⟨tv, c0, c1, c2, c3, hr.same (fun b _ hb2 => hb.block b hb2)⟩

theorem RO.cells {w0 : World} {ps : List Pt} {i : Nat} {wr : World} (h : RO w0 ps i wr) (k : Nat) (hk : k ≤ ps.length) :
    ∃ x y z u, wr.cell? ⟨w0.heap.size, k * 4, none⟩ = some x ∧ wr.cell? ⟨w0.heap.size, k * 4 + 1, none⟩ = some y ∧ wr.cell? ⟨w0.heap.size, k * 4 + 2, none⟩ = some z ∧ wr.cell? ⟨w0.heap.size, k * 4 + 3, none⟩ = some u ∧ ∀ o, wr.frozen? ⟨w0.heap.size, o, none⟩ = false := by
  obtain ⟨_, cur, hh, hs, _⟩ := h
  have hc : ∀ o (ho : o < cur.size), wr.cell? ⟨w0.heap.size, o, none⟩ = some cur[o] := fun o ho => by rw [cell_of_row wr _ o cur 35 (0, 0) hh]; exact Array.getElem?_eq_getElem ho
  exact ⟨_, _, _, _, hc (k * 4) (by omega), hc (k * 4 + 1) (by omega), hc (k * 4 + 2) (by omega), hc (k * 4 + 3) (by omega), fun o => by simp [World.frozen?, hh]⟩

/-- A record set in a row: what stands at each place behind it. -/
theorem set4_at {cur : Array Value} {m N : Nat} (hs : cur.size = N * 4) (hm : m < N) (a b c d : Value) :
    (((((cur.setIfInBounds (m * 4) a).setIfInBounds (m * 4 + 1) b).setIfInBounds (m * 4 + 2) c).setIfInBounds (m * 4 + 3) d)[m * 4]? = some a ∧
     ((((cur.setIfInBounds (m * 4) a).setIfInBounds (m * 4 + 1) b).setIfInBounds (m * 4 + 2) c).setIfInBounds (m * 4 + 3) d)[m * 4 + 1]? = some b ∧
     ((((cur.setIfInBounds (m * 4) a).setIfInBounds (m * 4 + 1) b).setIfInBounds (m * 4 + 2) c).setIfInBounds (m * 4 + 3) d)[m * 4 + 2]? = some c ∧
     ((((cur.setIfInBounds (m * 4) a).setIfInBounds (m * 4 + 1) b).setIfInBounds (m * 4 + 2) c).setIfInBounds (m * 4 + 3) d)[m * 4 + 3]? = some d) ∧
    ∀ o, o < m * 4 ∨ m * 4 + 4 ≤ o → ((((cur.setIfInBounds (m * 4) a).setIfInBounds (m * 4 + 1) b).setIfInBounds (m * 4 + 2) c).setIfInBounds (m * 4 + 3) d)[o]? = cur[o]? := by
  have ne := @Array.getElem?_setIfInBounds_ne Value
  refine ⟨⟨?_, ?_, ?_, ?_⟩, ?_⟩
  · rw [ne (by omega), ne (by omega), ne (by omega)]; exact Array.getElem?_setIfInBounds_self_of_lt (by simp [hs]; omega)
  · rw [ne (by omega), ne (by omega)]; exact Array.getElem?_setIfInBounds_self_of_lt (by simp [hs]; omega)
  · rw [ne (by omega)]; exact Array.getElem?_setIfInBounds_self_of_lt (by simp [hs]; omega)
  · exact Array.getElem?_setIfInBounds_self_of_lt (by simp [hs]; omega)
  · intro o ho
    rw [ne (by omega), ne (by omega), ne (by omega), ne (by omega)]

theorem set4_heap {w : World} {g o : Nat} {cur : Array Value} {T : TypeId} {a b c d : Value} (h : w.heap[g]? = some (.cells cur T (0, 0))) :
    ((((w.setCell ⟨g, o, none⟩ a).setCell ⟨g, o + 1, none⟩ b).setCell ⟨g, o + 2, none⟩ c).setCell ⟨g, o + 3, none⟩ d).heap[g]? = some (.cells ((((cur.setIfInBounds o a).setIfInBounds (o + 1) b).setIfInBounds (o + 2) c).setIfInBounds (o + 3) d) T (0, 0)) :=
  setCell_heap (setCell_heap (setCell_heap (setCell_heap h)))

theorem set4_other {w : World} {g o : Nat} {a b c d : Value} (k : Nat) (hk : k ≠ g) :
    ((((w.setCell ⟨g, o, none⟩ a).setCell ⟨g, o + 1, none⟩ b).setCell ⟨g, o + 2, none⟩ c).setCell ⟨g, o + 3, none⟩ d).heap[k]? = w.heap[k]? := by
  rw [Below.heap_setCell _ _ _ _ hk, Below.heap_setCell _ _ _ _ hk, Below.heap_setCell _ _ _ _ hk, Below.heap_setCell _ _ _ _ hk]

theorem set4_below {w0 w : World} {B g o : Nat} {a b c d : Value} (hb : Below B w0 w) (hg : B ≤ g) :
    Below B w0 ((((w.setCell ⟨g, o, none⟩ a).setCell ⟨g, o + 1, none⟩ b).setCell ⟨g, o + 2, none⟩ c).setCell ⟨g, o + 3, none⟩ d) :=
  hb.trans ⟨rfl, rfl, rfl, by simp [World.setCell], fun k hk => set4_other k (by omega)⟩

theorem RO.step {w0 wr : World} {ps : List Pt} {j : Nat} (h : RO w0 ps j wr) (hj : j < ps.length) {tv : Value} (hr : Rm wr w0.heap.size tv ps[j].ts j) :
    RO w0 ps (j + 1) ((((wr.setCell ⟨w0.heap.size, j * 4, none⟩ (.int .i64 ps[j].ty)).setCell ⟨w0.heap.size, j * 4 + 1, none⟩ (.int .i64 ps[j].bt)).setCell ⟨w0.heap.size, j * 4 + 2, none⟩ (.int .i64 ps[j].ln)).setCell ⟨w0.heap.size, j * 4 + 3, none⟩ tv) := by
  obtain ⟨hlow, cur, hh, hs, hf⟩ := h
  obtain ⟨⟨e0, e1, e2, e3⟩, eo⟩ := set4_at hs (m := j) (by omega) (.int .i64 ps[j].ty) (.int .i64 ps[j].bt) (.int .i64 ps[j].ln) tv
  refine ⟨set4_below hlow (Nat.le_refl _), _, set4_heap hh, by simp [hs], ?_⟩
  intro k hk hi
  by_cases e : k = j
  · subst e
    exact ⟨tv, e0, e1, e2, e3, hr.same (fun b hb _ => set4_other b (by omega))⟩
  · obtain ⟨tv', c0, c1, c2, c3, hr'⟩ := hf k hk (by omega)
    exact ⟨tv', by rw [eo _ (by omega)]; exact c0, by rw [eo _ (by omega)]; exact c1, by rw [eo _ (by omega)]; exact c2, by rw [eo _ (by omega)]; exact c3, hr'.same (fun b hb _ => set4_other b (by omega))⟩

/-- What roomy makes: the parts, each with its terms in a row of its own, and spare room behind each. -/
def Roomed (w : World) (g : Nat) (ps : List Pt) : Prop :=
  ∃ cur : Array Value, w.heap[g]? = some (.cells cur 35 (0, 0)) ∧ (∀ k (h : k < ps.length), ∃ tv, cur[k * 4]? = some (.int .i64 ps[k].ty) ∧ cur[k * 4 + 1]? = some (.int .i64 ps[k].bt) ∧ cur[k * 4 + 2]? = some (.int .i64 ps[k].ln) ∧ cur[k * 4 + 3]? = some tv ∧ Rm w g tv ps[k].ts k) ∧
    cur[ps.length * 4]? = some (.int .i64 (-9)) ∧ cur[ps.length * 4 + 3]? = some (.slice none 0 0)

theorem RO.done {w0 wr : World} {ps : List Pt} (h : RO w0 ps ps.length wr) (x y : Value) :
    Below w0.heap.size w0 ((((wr.setCell ⟨w0.heap.size, ps.length * 4, none⟩ (.int .i64 (-9))).setCell ⟨w0.heap.size, ps.length * 4 + 1, none⟩ x).setCell ⟨w0.heap.size, ps.length * 4 + 2, none⟩ y).setCell ⟨w0.heap.size, ps.length * 4 + 3, none⟩ (.slice none 0 0)) ∧
    Roomed ((((wr.setCell ⟨w0.heap.size, ps.length * 4, none⟩ (.int .i64 (-9))).setCell ⟨w0.heap.size, ps.length * 4 + 1, none⟩ x).setCell ⟨w0.heap.size, ps.length * 4 + 2, none⟩ y).setCell ⟨w0.heap.size, ps.length * 4 + 3, none⟩ (.slice none 0 0)) w0.heap.size ps := by
  obtain ⟨hlow, cur, hh, hs, hf⟩ := h
  obtain ⟨⟨e0, e1, e2, e3⟩, eo⟩ := set4_at hs (m := ps.length) (by omega) (.int .i64 (-9)) x y (.slice none 0 0)
  refine ⟨set4_below hlow (Nat.le_refl _), _, set4_heap hh, ?_, e0, e3⟩
  intro k hk
  obtain ⟨tv', c0, c1, c2, c3, hr'⟩ := hf k hk hk
  exact ⟨tv', by rw [eo _ (by omega)]; exact c0, by rw [eo _ (by omega)]; exact c1, by rw [eo _ (by omega)]; exact c2, by rw [eo _ (by omega)]; exact c3, hr'.same (fun b hb _ => set4_other b (by omega))⟩

theorem Roomed.below {w w' : World} {g : Nat} {ps : List Pt} (h : Roomed w g ps) (hb : Below w.heap.size w w') : Roomed w' g ps := by
  obtain ⟨cur, hh, hf, e⟩ := h
  refine ⟨cur, by rw [hb.block _ (lt_of_block hh)]; exact hh, ?_, e⟩
  intro k hk
  obtain ⟨tv, c0, c1, c2, c3, hr⟩ := hf k hk
  exact ⟨tv, c0, c1, c2, c3, hr.same (fun b _ h2 => hb.block b h2)⟩

theorem Rm.terms {w : World} {B : Nat} {tv : Value} {ts : List Tm} {j : Int} (h : Rm w B tv ts j) : ∃ g, tv = .slice (some ⟨g, 0, none⟩) ts.length (ts.length + 1) ∧ TermsIn w (some ⟨g, 0, none⟩) ts ∧
    w.cell? ⟨g, ts.length * 4, none⟩ = some (.bool true) ∧ w.cell? ⟨g, ts.length * 4 + 1, none⟩ = some (.bool true) ∧ w.cell? ⟨g, ts.length * 4 + 2, none⟩ = some (.int .i64 (-9)) ∧ w.cell? ⟨g, ts.length * 4 + 3, none⟩ = some (.int .i64 (-9 - j)) := by
  obtain ⟨g, cur, e, hg, hh, hc, s0, s1, s2, s3⟩ := h
  have hcell : ∀ o, w.cell? ⟨g, o, none⟩ = cur[o]? := fun o => cell_of_row w g o cur 71 (0, 0) hh
  refine ⟨g, e, ?_, by rw [hcell]; exact s0, by rw [hcell]; exact s1, by rw [hcell]; exact s2, by rw [hcell]; exact s3⟩
  intro i hi
  have hx : ∀ r, r < 4 → cur[i * 4 + r]? = (tcell ts[i])[r]? := by
    intro r hr
    have := flat4_at tcell (fun _ => rfl) ts i hi r hr
    have h2 : (tcells ts)[i * 4 + r]? = (tcell ts[i])[r]? := by unfold tcells; exact this
    have h3 : r < (tcell ts[i]).length := by simpa [tcell] using hr
    rw [List.getElem?_eq_getElem h3] at h2 ⊢
    exact hc _ _ h2
  refine ⟨g, 0, rfl, ?_, ?_, ?_, ?_⟩
  · rw [hcell, Nat.zero_add]; exact hx 0 (by omega)
  · rw [hcell, Nat.zero_add]; exact hx 1 (by omega)
  · rw [hcell, Nat.zero_add]; exact hx 2 (by omega)
  · rw [hcell, Nat.zero_add]; exact hx 3 (by omega)

theorem Roomed.parts {w : World} {g : Nat} {ps : List Pt} (h : Roomed w g ps) (hl : ∀ p ∈ ps, p.ts.length ≤ 11000000000000) : PartsIn w (some ⟨g, 0, none⟩) ps := by
  obtain ⟨cur, hh, hf, e⟩ := h
  have hcell : ∀ o, w.cell? ⟨g, o, none⟩ = cur[o]? := fun o => cell_of_row w g o cur 35 (0, 0) hh
  intro k hk
  obtain ⟨tv, c0, c1, c2, c3, hr⟩ := hf k hk
  obtain ⟨g', rfl, ht, _⟩ := hr.terms
  have := hl _ (List.getElem_mem hk)
  refine ⟨g, 0, some ⟨g', 0, none⟩, ps[k].ts.length + 1, rfl, ?_, ?_, ?_, ?_, by omega, ht⟩
  · rw [hcell, Nat.zero_add]; exact c0
  · rw [hcell, Nat.zero_add]; exact c1
  · rw [hcell, Nat.zero_add]; exact c2
  · rw [hcell, Nat.zero_add]; exact c3
end Go.Proofs.Ytgkiknfpcbcnnaa

namespace Go.Proofs.Ytgkiknfpcbcnnaa
open Go.RowKit
set_option maxRecDepth 20000

theorem tcells_one (ts : List Tm) : ∀ v ∈ tcells ts, v.oneCell' = true := by
  intro v hv
  simp only [tcells, List.mem_flatMap, tcell] at hv
  obtain ⟨t, _, h⟩ := hv
  simp at h
  rcases h with rfl | rfl | rfl | rfl <;> rfl

theorem TermsIn.src {w : World} {ao : Option Addr} {ts : List Tm} (h : TermsIn w ao ts) : (∀ ad, ao = some ad → ∀ (j : Nat) (v : Value), (tcells ts)[j]? = some v → w.cell? (ad.add j) = some v) ∧ (ao = none → tcells ts = []) := by
  constructor
  · rintro ad rfl j v hj
    have hlt : j < ts.length * 4 := by rw [← tcells_len]; exact (List.getElem?_eq_some_iff.1 hj).1
    have hi : j / 4 < ts.length := by omega
    have h2 := flat4_at tcell (fun _ => rfl) ts (j / 4) hi (j % 4) (by omega)
    rw [show j / 4 * 4 + j % 4 = j by omega] at h2
    have h3 : (tcells ts)[j]? = (tcell ts[j / 4])[j % 4]? := by unfold tcells; exact h2
    rw [h3] at hj
    obtain ⟨b, off, e, c0, c1, c2, c3⟩ := h (j / 4) hi
    simp only [Option.some.injEq] at e
    subst e
    have hadd : (⟨b, off, none⟩ : Addr).add j = ⟨b, off + j / 4 * 4 + j % 4, none⟩ := by
      have : off + j = off + j / 4 * 4 + j % 4 := by omega
      rw [← this]; unfold Addr.add; split <;> simp_all
    rw [hadd]
    have hr : j % 4 < 4 := by omega
    generalize j % 4 = r at *
    match r, hr with
    | 0, _ => simp only [tcell, List.getElem?_cons_zero, Option.some.injEq] at hj; subst hj; exact c0
    | 1, _ => simp only [tcell, List.getElem?_cons_succ, List.getElem?_cons_zero, Option.some.injEq] at hj; subst hj; exact c1
    | 2, _ => simp only [tcell, List.getElem?_cons_succ, List.getElem?_cons_zero, Option.some.injEq] at hj; subst hj; exact c2
    | 3, _ => simp only [tcell, List.getElem?_cons_succ, List.getElem?_cons_zero, Option.some.injEq] at hj; subst hj; exact c3
  · rintro rfl
    cases ts with
    | nil => rfl
    | cons t r => obtain ⟨b, off, e, _⟩ := h 0 (by simp); cases e

/-- The row of terms, copied and its spare term laid. -/
theorem Rm.made {w : World} {B g : Nat} {ts : List Tm} {j : Int} (hB : B < g) {cur : Array Value} (hh : w.heap[g]? = some (.cells cur 71 (0, 0))) (hs : cur.size = (ts.length + 1) * 4) (hc : ∀ (k : Nat) (v : Value), (tcells ts)[k]? = some v → cur[k]? = some v) :
    Rm ((((w.setCell ⟨g, ts.length * 4, none⟩ (.bool true)).setCell ⟨g, ts.length * 4 + 1, none⟩ (.bool true)).setCell ⟨g, ts.length * 4 + 2, none⟩ (.int .i64 (-9))).setCell ⟨g, ts.length * 4 + 3, none⟩ (.int .i64 (-9 - j))) B (.slice (some ⟨g, 0, none⟩) ts.length (ts.length + 1)) ts j := by
  obtain ⟨⟨e0, e1, e2, e3⟩, eo⟩ := set4_at hs (m := ts.length) (by omega) (.bool true) (.bool true) (.int .i64 (-9)) (.int .i64 (-9 - j))
  refine ⟨g, _, rfl, hB, set4_heap hh, ?_, e0, e1, e2, e3⟩
  intro k v hk
  have : k < ts.length * 4 := by rw [← tcells_len]; exact (List.getElem?_eq_some_iff.1 hk).1
  rw [eo k (by omega)]
  exact hc k v hk

theorem row_some4 {w : World} {g N k : Nat} {cur : Array Value} {T : TypeId} (hh : w.heap[g]? = some (.cells cur T (0, 0))) (hs : cur.size = N * 4) (hk : k < N) :
    ∃ x y z u, w.cell? ⟨g, k * 4, none⟩ = some x ∧ w.cell? ⟨g, k * 4 + 1, none⟩ = some y ∧ w.cell? ⟨g, k * 4 + 2, none⟩ = some z ∧ w.cell? ⟨g, k * 4 + 3, none⟩ = some u ∧ ∀ o, w.frozen? ⟨g, o, none⟩ = false := by
  have hc : ∀ o (ho : o < cur.size), w.cell? ⟨g, o, none⟩ = some cur[o] := fun o ho => by rw [cell_of_row w _ o cur T (0, 0) hh]; exact Array.getElem?_eq_getElem ho
  exact ⟨_, _, _, _, hc (k * 4) (by omega), hc (k * 4 + 1) (by omega), hc (k * 4 + 2) (by omega), hc (k * 4 + 3) (by omega), fun o => by simp [World.frozen?, hh]⟩

theorem infoTerm4 : (Try.prog.info? 71).map (·.size) = some 4 := by
  obtain ⟨i0, hi, hz0, hz1, hz2⟩ := info_parts infoTerm
  rw [hi]; simp [hz1]

set_option maxHeartbeats 1000000 in
theorem roomy_any (w : World) (ao : Option Addr) (cap : Nat) (ps : List Pt) (h : PartsIn w ao ps) (hn : ps.length ≤ 5864062014803) (ht : ∀ p ∈ ps, p.ts.length ≤ 11000000000000) :
    Calls Try.prog 19 #[.slice ao ps.length cap] w fun e w' => e = .returned (.slice (some ⟨w.heap.size, 0, none⟩) ps.length (ps.length + 1)) ∧ Below w.heap.size w w' ∧ Roomed w' w.heap.size ps := by
  have hmk := make_parts ps.length hn
  obtain ⟨X, hX⟩ : ∃ X, X = madeCells (Value.agg #[.int .i64 0, .int .i64 0, .int .i64 0, .slice none 0 0]).cells ((ps.length + 1) * 4) := ⟨_, rfl⟩
  have hXs : X.size = (ps.length + 1) * 4 := by rw [hX, size_madeCells]
  rw [← hX] at hmk
  clear hX
  go_enter Try.func19, Try.ntmps19
  go_wp2
  clear hmk
  go_loopw [4] (fun i wr => ∃ j : Nat, i = .int .i64 j ∧ j ≤ ps.length ∧ RO w ps j wr) (fun i _ => ps.length - (intOf i).toNat)
  case atStart => exact ⟨0, rfl, Nat.zero_le _, RO.start w ps X hXs⟩
  case round =>
    obtain ⟨j, rfl, hj, hro⟩ := hrel
    by_cases hlt : j < ps.length
    · obtain ⟨bl, off, tao, tcap, rfl, c0, c1, c2, c3, hl, hti⟩ := h.below hro.low j hlt
      have htl := ht _ (List.getElem_mem hlt)
      have hmk := make_terms ps[j].ts.length htl
      obtain ⟨Y, hY⟩ : ∃ Y, Y = madeCells (Value.agg #[.bool false, .bool false, .int .i64 0, .int .i64 0]).cells ((ps[j].ts.length + 1) * 4) := ⟨_, rfl⟩
      have hYs : Y.size = (ps[j].ts.length + 1) * 4 := by rw [hY, size_madeCells]
      rw [← hY] at hmk
      clear hY
      have hts := (hti.below (below_alloc wr (.cells Y 71))).src
      have hlow := hro.lt
      have hnew : (wr.alloc (.cells Y 71)).heap[wr.heap.size]? = some (.cells Y 71 (0, 0)) := by show (wr.heap.push _)[wr.heap.size]? = _; simp
      have hbl : bl < wr.heap.size := World.block_lt_of_cell? wr _ c0
      have d3 : (wr.alloc (.cells Y 71)).cell? ⟨bl, off + j * 4 + 3, none⟩ = some (.slice tao ps[j].ts.length tcap) := ((below_alloc wr (.cells Y 71)).cell hbl).trans c3
      clear hti h
      generalize hp : ps[j] = p at *
      obtain ⟨w2, vc, hcp, ⟨cur, hc0, hc1, hc2⟩, hB2, hs2⟩ := run_copy_some (P := Try.prog) (wr.alloc (.cells Y 71)) 33 33 3 71 4 wr.heap.size (p.ts.length + 1) (p.ts.length + 1) tao p.ts.length tcap Y 71 (tcells p.ts) Try.underlying33 infoTerm4 hnew (by rw [tcells_len]; simp) hts.1 hts.2 (by rw [tcells_len, hYs]; omega) (tcells_one _)
      go_wp2_with (go_at_call 44; refine (spoilt_big _ _ (by omega) (by omega)).mono ?_; rintro e w3 ⟨rfl, hb3⟩; have hc3 : w3.heap[wr.heap.size]? = some (.cells cur 71 (0, 0)) := (hb3.block _ (lt_of_block hc0)).trans hc0; obtain ⟨x, y, z, u, x0, x1, x2, x3, xf⟩ := row_some4 hc3 (hc1.trans hYs) (Nat.lt_succ_self p.ts.length))
      have hz3 : wr.heap.size ≤ w2.heap.size := by rw [hs2]; simp
      have hb4 : Below wr.heap.size wr w3 := ((below_alloc wr (.cells Y 71)).trans hB2).trans (hb3.mono hz3)
      have hrm := Rm.made (w := w3) (B := w.heap.size) (g := wr.heap.size) (ts := p.ts) (j := (j : Int)) hlow hc3 (hc1.trans hYs) hc2
      have hb5 : Below wr.heap.size wr ((((w3.setCell ⟨wr.heap.size, p.ts.length * 4, none⟩ (.bool true)).setCell ⟨wr.heap.size, p.ts.length * 4 + 1, none⟩ (.bool true)).setCell ⟨wr.heap.size, p.ts.length * 4 + 2, none⟩ (.int .i64 (-9))).setCell ⟨wr.heap.size, p.ts.length * 4 + 3, none⟩ (.int .i64 (-9 - (j : Int)))) := set4_below hb4 (Nat.le_refl _)
      generalize (((w3.setCell ⟨wr.heap.size, p.ts.length * 4, none⟩ (.bool true)).setCell ⟨wr.heap.size, p.ts.length * 4 + 1, none⟩ (.bool true)).setCell ⟨wr.heap.size, p.ts.length * 4 + 2, none⟩ (.int .i64 (-9))).setCell ⟨wr.heap.size, p.ts.length * 4 + 3, none⟩ (.int .i64 (-9 - (j : Int))) = w4 at *
      have hro4 := hro.below hb5
      have f0 := (hb5.cell hbl).trans c0
      have f1 := (hb5.cell hbl).trans c1
      have f2 := (hb5.cell hbl).trans c2
      obtain ⟨ox, oy, oz, ou, o0, o1, o2, o3, of⟩ := hro4.cells j hj
      clear c0 c1 c2 c3 d3 hb3 hb4 hb5 hc0 hc1 hc2 hc3 x0 x1 x2 x3 xf hts hnew hmk hB2 hcp
      have hnx := (hro4.step hlt (tv := .slice (some ⟨wr.heap.size, 0, none⟩) p.ts.length (p.ts.length + 1)) (by rw [hp]; exact hrm)).below ((Below.refl _ _).drew)
      rw [hp] at hnx
      clear hrm hro4 hro
      go_region
      clear f0 f1 f2 o0 o1 o2 o3 of
      generalize World.drew _ = w5 at *
      go_wp2
      go_roundw
      case rel => exact ⟨j + 1, by go_num, by omega, hnx⟩
      case measure => simp [intOf]; omega
    · have e : j = ps.length := by omega
      subst e
      clear h ht
      go_wp2_with (go_at_call 17; refine (spoiltPart_any _).mono ?_; rintro e w3 ⟨rfl, hb3⟩; have hro3 := hro.below hb3; obtain ⟨ox, oy, oz, ou, o0, o1, o2, o3, of⟩ := hro3.cells ps.length (Nat.le_refl _))
      go_ret
      have := hro3.done (.int .i64 0) (.int .i64 0)
      exact ⟨rfl, this.1, this.2⟩
end Go.Proofs.Ytgkiknfpcbcnnaa

namespace Go.Proofs.Ytgkiknfpcbcnnaa
open Go.RowKit
set_option maxRecDepth 20000

/-- The spare cells of one list, and where it is told. -/
theorem Roomed.at {w : World} {g : Nat} {ps : List Pt} (h : Roomed w g ps) (j : Nat) (hj : j < ps.length) : ∃ g', g < w.heap.size ∧ g' < w.heap.size ∧ w.cell? ⟨g, j * 4 + 3, none⟩ = some (.slice (some ⟨g', 0, none⟩) ps[j].ts.length (ps[j].ts.length + 1)) ∧
    w.cell? ⟨g', ps[j].ts.length * 4, none⟩ = some (.bool true) ∧ w.cell? ⟨g', ps[j].ts.length * 4 + 1, none⟩ = some (.bool true) ∧ w.cell? ⟨g', ps[j].ts.length * 4 + 2, none⟩ = some (.int .i64 (-9)) ∧ w.cell? ⟨g', ps[j].ts.length * 4 + 3, none⟩ = some (.int .i64 (-9 - (j : Int))) := by
  obtain ⟨cur, hh, hf, _⟩ := h
  obtain ⟨tv, c0, c1, c2, c3, hr⟩ := hf j hj
  obtain ⟨g', rfl, _, s0, s1, s2, s3⟩ := hr.terms
  exact ⟨g', lt_of_block hh, World.block_lt_of_cell? w _ s0, by rw [cell_of_row w g _ cur 35 (0, 0) hh]; exact c3, s0, s1, s2, s3⟩

theorem Roomed.end {w : World} {g : Nat} {ps : List Pt} (h : Roomed w g ps) : w.cell? ⟨g, ps.length * 4, none⟩ = some (.int .i64 (-9)) ∧ w.cell? ⟨g, ps.length * 4 + 3, none⟩ = some (.slice none 0 0) := by
  obtain ⟨cur, hh, _, e0, e3⟩ := h
  exact ⟨by rw [cell_of_row w g _ cur 35 (0, 0) hh]; exact e0, by rw [cell_of_row w g _ cur 35 (0, 0) hh]; exact e3⟩

theorem spoilt_b (i : Int) (w W0 : World) (h0 : 0 ≤ i) (h1 : i ≤ 140737488351232) (hb : Below W0.heap.size W0 w) :
    Calls Try.prog 44 #[.int .i64 i] w fun e w' => e = .returned (.agg #[.bool true, .bool true, .int .i64 (-9), .int .i64 (-9 - i)]) ∧ Below W0.heap.size W0 w' :=
  (spoilt_big i w h0 h1).mono fun _ _ h => ⟨h.1, hb.trans (h.2.mono hb.size)⟩

theorem held4 {W w' : World} {g o : Nat} {a b c d : Value} (hg : g < W.heap.size) (c0 : W.cell? ⟨g, o, none⟩ = some a) (c1 : W.cell? ⟨g, o + 1, none⟩ = some b) (c2 : W.cell? ⟨g, o + 2, none⟩ = some c) (c3 : W.cell? ⟨g, o + 3, none⟩ = some d) (hb : Below W.heap.size W w') :
    w'.cell? ⟨g, o, none⟩ = some a ∧ w'.cell? ⟨g, o + 1, none⟩ = some b ∧ w'.cell? ⟨g, o + 2, none⟩ = some c ∧ w'.cell? ⟨g, o + 3, none⟩ = some d ∧ Below W.heap.size W w' :=
  ⟨(hb.cell hg).trans c0, (hb.cell hg).trans c1, (hb.cell hg).trans c2, (hb.cell hg).trans c3, hb⟩

set_option maxHeartbeats 1000000 in
theorem still_any (w : World) (g : Nat) (lo : Option Addr) (cap : Nat) (ps : List Pt) (hr : Roomed w g ps) (hl : PartsIn w lo ps) (hn : ps.length ≤ 5864062014803) (ht : ∀ p ∈ ps, p.ts.length ≤ 11000000000000) :
    Calls Try.prog 22 #[.slice (some ⟨g, 0, none⟩) ps.length (ps.length + 1), .slice lo ps.length cap] w fun e w' => e = .returned (.bool true) ∧ Below w.heap.size w w' := by
  have hpi := hr.parts ht
  go_enter Try.func22, Try.ntmps22
  go_wp2_with (go_at_call 15; refine (sameParts_eq _ _ _ _ _ _ (by omega) hpi hl).mono ?_; rintro e w1 ⟨rfl, nd, rfl⟩)
  have hb1 : Below w.heap.size w (w.drewN nd) := below_drewN (Below.refl _ _) _
  clear hpi hl
  go_loopw [6] (fun i wr => ∃ j : Nat, i = .int .i64 j ∧ j ≤ ps.length ∧ Below w.heap.size w wr) (fun i _ => ps.length - (intOf i).toNat)
  case atStart => exact ⟨0, rfl, Nat.zero_le _, hb1⟩
  case round =>
    obtain ⟨j, rfl, hj, hbel⟩ := hrel
    have hrr := hr.below hbel
    by_cases hlt : j < ps.length
    · obtain ⟨g', hg, hg', c3, s0, s1, s2, s3⟩ := hrr.at j hlt
      have htl := ht _ (List.getElem_mem hlt)
      clear hrr hr ht
      generalize ps[j] = p at *
      have hidx : (p.ts.length : Int) < (p.ts.length : Int) + 1 := by omega
      go_wp2_with fail
      go_region_held3 (fun w' => w'.cell? ⟨g', p.ts.length * 4, none⟩ = some (.bool true) ∧ w'.cell? ⟨g', p.ts.length * 4 + 1, none⟩ = some (.bool true) ∧ w'.cell? ⟨g', p.ts.length * 4 + 2, none⟩ = some (.int .i64 (-9)) ∧ w'.cell? ⟨g', p.ts.length * 4 + 3, none⟩ = some (.int .i64 (-9 - (j : Int))) ∧ Below wr.heap.size wr w')
        (first | exact held4 hg' s0 s1 s2 s3 (by assumption) | exact held4 hg' s0 s1 s2 s3 (Below.refl _ _) | exact held4 hg' s0 s1 s2 s3 (Below.refl _ _).drew)
        ((go_at_call 44; refine (spoilt_b _ _ wr (by omega) (by omega) (by go_split_ands; assumption)).mono ?_; rintro e w1 ⟨rfl, hb2⟩))
      all_goals go_wp2
      all_goals go_roundw
      case rel => exact ⟨j + 1, by go_num, by omega, hbel.trans (Below.mono (by assumption) hbel.size)⟩
      case measure => simp [intOf]; omega
    · have e : j = ps.length := by omega
      subst e
      obtain ⟨e0, e3⟩ := hrr.end
      clear hrr hr ht
      go_wp2
      go_ret
      exact ⟨rfl, hbel⟩
end Go.Proofs.Ytgkiknfpcbcnnaa

namespace Go.Proofs.Ytgkiknfpcbcnnaa
open Go.RowKit
set_option maxRecDepth 20000

set_option maxHeartbeats 1000000 in
theorem encodes_any (w : World) (ao : Option Addr) (cap : Nat) (ps : List Pt) (hp : PartsIn w ao ps) (hn : ps.length ≤ 5864062014803) (ht : ∀ p ∈ ps, p.ts.length ≤ 11000000000000) :
    Calls Try.prog 4 #[.agg #[.slice ao ps.length cap]] w fun e w' => e = .returned (.bool true) ∧ Below w.heap.size w w' := by
  have hp1 := hp.below (below_alloc w (.cells #[.slice ao ps.length cap] 24))
  have hE : ∀ (g : Nat) (v : World), PartsIn v (some ⟨g, 0, none⟩) ps → Calls Try.prog 20 #[.agg #[.slice (some ⟨g, 0, none⟩) ps.length (ps.length + 1)]] v fun e w' => e = .returned (encR ps) ∧ Below v.heap.size v w' := by
    intro g v hv
    cases hr : isR ps
    · exact (encode_no ps _ _ v hr (by omega) hv).mono fun e w' h => ⟨h.1.trans (by simp [encR, hr]), h.2⟩
    · exact (encode_yes ps _ _ v hr hv).mono fun e w' h => ⟨h.1.trans (by simp [encR, hr]), h.2⟩
  obtain ⟨s, c, hs⟩ : ∃ s c, encR ps = .tuple #[.string s, .int .i64 c] := by
    unfold encR; split <;> exact ⟨_, _, rfl⟩
  go_enter Try.func4, Try.ntmps4
  go_wp2_with (first
    | (go_at_call 19; refine (roomy_any _ _ _ _ hp1 hn ht).mono ?_; rintro e w1 ⟨rfl, hb1, hr1⟩; have hpp := hp1.below hb1; rw [World.size_alloc] at hr1; have hpi := hr1.parts ht; have k1 : w1.cell? ⟨w.heap.size, 0, none⟩ = some (.slice ao ps.length cap) := (hb1.cell (by simp)).trans (by simp [go_sem]))
    | (go_at_call 20; refine (hE _ _ hpi).mono ?_; rw [hs]; rintro e w2 ⟨rfl, hb2⟩; have hr2 := hr1.below hb2; have hp2 := hpp.below hb2; have k2 : w2.cell? ⟨w.heap.size, 0, none⟩ = some (.slice ao ps.length cap) := (hb2.cell (World.block_lt_of_cell? _ _ k1)).trans k1)
    | (go_at_call 21; refine (refEncode_any _ _ _ _ (by omega) hp2).mono ?_; rw [hs]; rintro e w3 ⟨rfl, hb3⟩; have hr3 := hr2.below hb3; have hp3 := hp2.below hb3; have k3 : w3.cell? ⟨w.heap.size, 0, none⟩ = some (.slice ao ps.length cap) := (hb3.cell (World.block_lt_of_cell? _ _ k2)).trans k2)
    | (go_at_call 22; refine (still_any _ _ _ _ _ hr3 hp3 hn ht).mono ?_; rintro e w4 ⟨rfl, hb4⟩))
  go_ret
  have z1 := hb1.size
  have z2 := hb2.size
  have z3 := hb3.size
  exact ⟨rfl, below_first (((hb1.trans (hb2.mono z1)).trans (hb3.mono (Nat.le_trans z1 z2))).trans (hb4.mono (Nat.le_trans z1 (Nat.le_trans z2 z3))))⟩
end Go.Proofs.Ytgkiknfpcbcnnaa

namespace Go.Proofs.Ytgkiknfpcbcnnaa
open Go.ChangeShapes Go.WideShapes Go.RowKit Go.Deep Go.Joins

theorem cellsTerm : Try.prog.cellsOf 71 = 4 := by kernel_rfl
theorem cellsPart : Try.prog.cellsOf 35 = 4 := by kernel_rfl
theorem cellsPref : Try.prog.cellsOf 32 = 2 := by kernel_rfl
theorem cellsTerms : Try.prog.cellsOf 33 = 1 := by kernel_rfl
theorem cellsParts : Try.prog.cellsOf 22 = 1 := by kernel_rfl
theorem cellsInt : Try.prog.cellsOf 3 = 1 := by kernel_rfl
theorem cellsBool : Try.prog.cellsOf 4 = 1 := by kernel_rfl
theorem bytesTerm : Try.prog.bytesOf 71 = 24 := by kernel_rfl
theorem bytesPart : Try.prog.bytesOf 35 = 48 := by kernel_rfl

section
variable {H : Type} {enc : TypeId × Value → H} {w : World} {base : Nat} {spare : Nat → Bool} {held : Bool}

theorem four {α : Type} {l : List α} (h : l.length = 4) : ∃ a b c d, l = [a, b, c, d] := by
  match l, h with
  | [a, b, c, d], _ => exact ⟨a, b, c, d, rfl⟩

theorem open_term {fuel : Nat} {cs : List Value} {x : DataW H × List MemPlace} (h : DataW.trod enc Try.prog w base spare held fuel 71 cs = some x) :
    ∃ t : Tm, cs = [.bool t.an, .bool t.wd, .int .i64 t.op, .int .i64 t.vl] := by
  obtain ⟨y0, y1, y2, y3, n, _, hl, h0, h1, h2, h3⟩ := trod_struct4 Try.underlying71 h
  rw [cellsTerm] at hl
  obtain ⟨a, b, c, d, rfl⟩ := four hl
  simp only [cellsInt, cellsBool, List.drop_zero, List.drop_succ_cons, List.take_succ_cons, List.take_zero] at h0 h1 h2 h3
  obtain ⟨b0, e0, _⟩ := DataW.trod_bool Try.underlying4 h0
  obtain ⟨b1, e1, _⟩ := DataW.trod_bool Try.underlying4 h1
  obtain ⟨n2, e2, _⟩ := DataW.trod_int Try.underlying3 h2
  obtain ⟨n3, e3, _⟩ := DataW.trod_int Try.underlying3 h3
  simp only [List.cons.injEq, and_true] at e0 e1 e2 e3
  exact ⟨⟨b0, b1, n2, n3⟩, by rw [e0, e1, e2, e3]⟩

theorem no_spot {a : Addr} {cs : List Value} (h : w.cells? base (a.add (0 * 4)) 4 = some cs) : ∃ b off, a = ⟨b, off, none⟩ := by
  obtain ⟨_, hl, hc⟩ := World.cells?_some h
  obtain ⟨x0, x1, x2, x3, rfl⟩ := four hl
  have g0 := hc 0 (by omega)
  obtain ⟨b, off, spot⟩ := a
  have hspot : spot = none := by simpa [Addr.add] using World.cell?_spot g0
  subst hspot
  exact ⟨b, off, rfl⟩

/-- The cells of a row's record, plainly. -/
theorem rec_cells {b off i : Nat} {x0 x1 x2 x3 : Value} (h : w.cells? base ((⟨b, off, none⟩ : Addr).add (i * 4)) 4 = some [x0, x1, x2, x3]) :
    w.cell? ⟨b, off + i * 4, none⟩ = some x0 ∧ w.cell? ⟨b, off + i * 4 + 1, none⟩ = some x1 ∧ w.cell? ⟨b, off + i * 4 + 2, none⟩ = some x2 ∧ w.cell? ⟨b, off + i * 4 + 3, none⟩ = some x3 := by
  obtain ⟨_, _, hc⟩ := World.cells?_some h
  have g0 := hc 0 (by omega)
  have g1 := hc 1 (by omega)
  have g2 := hc 2 (by omega)
  have g3 := hc 3 (by omega)
  simp only [Go.WideShapes.add_plain] at g0 g1 g2 g3
  exact ⟨by simpa using g0, by simpa using g1, by simpa using g2, by simpa using g3⟩

/-- A list of terms that came in. -/
theorem open_terms {fuel : Nat} {cs : List Value} {x : DataW H × List MemPlace} (h : DataW.trod enc Try.prog w base spare held fuel 33 cs = some x) :
    ∃ (ao : Option Addr) (ts : List Tm) (cap : Nat), cs = [.slice ao ts.length cap] ∧ TermsIn w ao ts ∧ (ts = [] ∨ ∃ m ∈ x.1.weights Try.prog 33, ts.length * 24 ≤ m) := by
  rcases open_slice Try.underlying33 h with ⟨rfl, _⟩ | ⟨a, len, cap, m, n, D, Pl, rfl, _, hl, _, hm, rfl, hx⟩
  · exact ⟨none, [], 0, rfl, fun i hi => absurd hi (by simp), .inl rfl⟩
  · rw [cellsTerm] at hx
    have hle : len ≤ m := by rw [hm]; split <;> omega
    have hall : ∀ i, i < len → ∃ t : Tm, ∃ b off, a = ⟨b, off, none⟩ ∧ w.cell? ⟨b, off + i * 4, none⟩ = some (.bool t.an) ∧ w.cell? ⟨b, off + i * 4 + 1, none⟩ = some (.bool t.wd) ∧ w.cell? ⟨b, off + i * 4 + 2, none⟩ = some (.int .i64 t.op) ∧ w.cell? ⟨b, off + i * 4 + 3, none⟩ = some (.int .i64 t.vl) := by
      intro i hi
      obtain ⟨cs', h1, h2⟩ := hx i (by omega)
      obtain ⟨t, rfl⟩ := open_term h2
      obtain ⟨cs0, k1, _⟩ := hx 0 (by omega)
      obtain ⟨b, off, rfl⟩ := no_spot k1
      exact ⟨t, b, off, rfl, rec_cells h1⟩
    haveI : Inhabited Tm := ⟨⟨false, false, 0, 0⟩⟩
    obtain ⟨T, hT⟩ := choose_lt hall
    refine ⟨some a, (List.range len).map T, cap, by simp, ?_, .inr ⟨_, by simp only [DataW.weights, Try.underlying33]; exact List.mem_cons_self, ?_⟩⟩
    · intro i hi
      simp only [List.length_map, List.length_range] at hi
      obtain ⟨b, off, rfl, c⟩ := hT i hi
      exact ⟨b, off, rfl, by simpa using c⟩
    · simp only [List.length_map, List.length_range, bytesTerm]
      exact Nat.mul_le_mul_right _ (by omega)

theorem open_part {fuel : Nat} {cs : List Value} {x : DataW H × List MemPlace} (h : DataW.trod enc Try.prog w base spare held fuel 35 cs = some x) :
    ∃ (p : Pt) (tao : Option Addr) (tcap : Nat), cs = [.int .i64 p.ty, .int .i64 p.bt, .int .i64 p.ln, .slice tao p.ts.length tcap] ∧ TermsIn w tao p.ts ∧ (p.ts = [] ∨ ∃ m ∈ x.1.weights Try.prog 35, p.ts.length * 24 ≤ m) := by
  obtain ⟨y0, y1, y2, n, rfl, hl, h0, h1, h2⟩ := trod_struct3 Try.underlying35 h
  rw [cellsPart] at hl
  obtain ⟨a, b, c, d, rfl⟩ := four hl
  simp only [cellsInt, cellsPref, cellsTerms, List.drop_zero, List.drop_succ_cons, List.take_succ_cons, List.take_zero] at h0 h1 h2
  obtain ⟨n0, e0, _⟩ := DataW.trod_int Try.underlying3 h0
  obtain ⟨z0, z1, n', _, _, k0, k1⟩ := trod_struct2 Try.underlying32 h1
  simp only [cellsInt, List.drop_zero, List.drop_succ_cons, List.take_succ_cons, List.take_zero] at k0 k1
  obtain ⟨n1, e1, _⟩ := DataW.trod_int Try.underlying3 k0
  obtain ⟨n2, e2, _⟩ := DataW.trod_int Try.underlying3 k1
  obtain ⟨tao, ts, tcap, e3, ht, hw⟩ := open_terms h2
  simp only [List.cons.injEq, and_true] at e0 e1 e2 e3
  refine ⟨⟨n0, n1, n2, ts⟩, tao, tcap, by rw [e0, e1, e2, e3], ht, ?_⟩
  rcases hw with hw | ⟨m, hm, hle⟩
  · exact .inl hw
  · refine .inr ⟨m, ?_, hle⟩
    simp only [DataW.weights, Try.underlying35]
    exact DataW.weights_mem_each (j := 2) (t := 33) (d := y2.1) rfl rfl m hm

theorem all_mem {P : Program} {e : TypeId} : ∀ {ds : List (DataW H)} {d : DataW H}, d ∈ ds → ∀ m ∈ d.weights P e, m ∈ DataW.weightsAll P e ds
  | d0 :: ds, d, hd, m, hm => by
    simp only [DataW.weightsAll, List.mem_append]
    rcases List.mem_cons.1 hd with rfl | hd
    · exact .inl hm
    · exact .inr (all_mem hd m hm)

/-- A rule's parts that came in. -/
theorem open_parts {fuel : Nat} {cs : List Value} {x : DataW H × List MemPlace} (h : DataW.trod enc Try.prog w base spare held fuel 22 cs = some x) (hz : ∀ m ∈ x.1.weights Try.prog 22, m ≤ reachBytes) :
    ∃ (ao : Option Addr) (ps : List Pt) (cap : Nat), cs = [.slice ao ps.length cap] ∧ PartsIn w ao ps ∧ ps.length ≤ 5864062014803 ∧ ∀ p ∈ ps, p.ts.length ≤ 11000000000000 := by
  have hr : reachBytes = 140737488351232 := by decide
  rcases open_slice Try.underlying22 h with ⟨rfl, _⟩ | ⟨a, len, cap, m, n, D, Pl, rfl, _, hl, _, hm, rfl, hx⟩
  · exact ⟨none, [], 0, rfl, fun i hi => absurd hi (by simp), by simp, by simp⟩
  · rw [cellsPart] at hx
    have hle : len ≤ m := by rw [hm]; split <;> omega
    simp only [DataW.weights, Try.underlying22, List.mem_cons, List.mem_append, bytesPart, List.length_map, List.length_range] at hz
    have hlen := hz _ (.inl rfl)
    have hall : ∀ i, i < len → ∃ p : Pt, ∃ b off tao tcap, a = ⟨b, off, none⟩ ∧ w.cell? ⟨b, off + i * 4, none⟩ = some (.int .i64 p.ty) ∧ w.cell? ⟨b, off + i * 4 + 1, none⟩ = some (.int .i64 p.bt) ∧ w.cell? ⟨b, off + i * 4 + 2, none⟩ = some (.int .i64 p.ln) ∧ w.cell? ⟨b, off + i * 4 + 3, none⟩ = some (.slice tao p.ts.length tcap) ∧ p.ts.length ≤ 11000000000000 ∧ TermsIn w tao p.ts := by
      intro i hi
      obtain ⟨cs', h1, h2⟩ := hx i (by omega)
      obtain ⟨p, tao, tcap, rfl, ht, hw⟩ := open_part h2
      obtain ⟨cs0, k1, _⟩ := hx 0 (by omega)
      obtain ⟨b, off, rfl⟩ := no_spot k1
      obtain ⟨c0, c1, c2, c3⟩ := rec_cells h1
      refine ⟨p, b, off, tao, tcap, rfl, c0, c1, c2, c3, ?_, ht⟩
      rcases hw with hw | ⟨k, hk, hkl⟩
      · rw [hw]; simp
      · have := hz k (.inr (.inl (all_mem (List.mem_map.2 ⟨i, List.mem_range.2 hi, rfl⟩) k hk)))
        omega
    haveI : Inhabited Pt := ⟨⟨0, 0, 0, []⟩⟩
    obtain ⟨T, hT⟩ := choose_lt hall
    refine ⟨some a, (List.range len).map T, cap, by simp, ?_, by simp only [List.length_map, List.length_range]; omega, ?_⟩
    · intro i hi
      simp only [List.length_map, List.length_range] at hi
      obtain ⟨b, off, tao, tcap, rfl, c0, c1, c2, c3, hl', ht⟩ := hT i hi
      refine ⟨b, off, tao, tcap, rfl, ?_⟩
      simp only [List.getElem_map, List.getElem_range]
      exact ⟨c0, c1, c2, c3, by omega, ht⟩
    · intro p hp
      obtain ⟨i, hi, rfl⟩ := List.mem_map.1 hp
      obtain ⟨b, off, tao, tcap, _, _, _, _, _, hl', _⟩ := hT i (List.mem_range.1 hi)
      exact hl'
end
end Go.Proofs.Ytgkiknfpcbcnnaa
