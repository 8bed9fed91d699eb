import Derived.Test.YtkdcjcemeipkjaaEncs
import Derived.Lib.SmallJoins
import Derived.SizedLaws
import Derived.Deep.Slices
import Derived.Deep.Strs
namespace Go.Proofs.Ytkdcjcemeipkjaa
open Go.ChangeShapes Go.WideShapes Go.RowKit Go.Deep Go.Joins

theorem cellsTerm : Try.prog.cellsOf 63 = 4 := by kernel_rfl
theorem cellsPart : Try.prog.cellsOf 35 = 4 := by kernel_rfl
theorem cellsPref : Try.prog.cellsOf 32 = 2 := by kernel_rfl
theorem cellsTerms : Try.prog.cellsOf 33 = 1 := by kernel_rfl
theorem cellsParts : Try.prog.cellsOf 22 = 1 := by kernel_rfl
theorem cellsInt : Try.prog.cellsOf 3 = 1 := by kernel_rfl
theorem cellsBool : Try.prog.cellsOf 4 = 1 := by kernel_rfl
theorem bytesTerm : Try.prog.bytesOf 63 = 24 := by kernel_rfl
theorem bytesPart : Try.prog.bytesOf 35 = 48 := by kernel_rfl

section
variable {H : Type} {enc : TypeId × Value → H} {w : World} {base : Nat} {spare : Nat → Bool} {held : Bool}

theorem four {α : Type} {l : List α} (h : l.length = 4) : ∃ a b c d, l = [a, b, c, d] := by
  match l, h with
  | [a, b, c, d], _ => exact ⟨a, b, c, d, rfl⟩

theorem open_term {fuel : Nat} {cs : List Value} {x : DataW H × List MemPlace} (h : DataW.trod enc Try.prog w base spare held fuel 63 cs = some x) :
    ∃ t : Tm, cs = [.bool t.an, .bool t.wd, .int .i64 t.op, .int .i64 t.vl] := by
  obtain ⟨y0, y1, y2, y3, n, _, hl, h0, h1, h2, h3⟩ := trod_struct4 Try.underlying63 h
  rw [cellsTerm] at hl
  obtain ⟨a, b, c, d, rfl⟩ := four hl
  simp only [cellsInt, cellsBool, List.drop_zero, List.drop_succ_cons, List.take_succ_cons, List.take_zero] at h0 h1 h2 h3
  obtain ⟨b0, e0, _⟩ := DataW.trod_bool Try.underlying4 h0
  obtain ⟨b1, e1, _⟩ := DataW.trod_bool Try.underlying4 h1
  obtain ⟨n2, e2, _⟩ := DataW.trod_int Try.underlying3 h2
  obtain ⟨n3, e3, _⟩ := DataW.trod_int Try.underlying3 h3
  simp only [List.cons.injEq, and_true] at e0 e1 e2 e3
  exact ⟨⟨b0, b1, n2, n3⟩, by rw [e0, e1, e2, e3]⟩

theorem no_spot {a : Addr} {cs : List Value} (h : w.cells? base (a.add (0 * 4)) 4 = some cs) : ∃ b off, a = ⟨b, off, none⟩ := by
  obtain ⟨_, hl, hc⟩ := World.cells?_some h
  obtain ⟨x0, x1, x2, x3, rfl⟩ := four hl
  have g0 := hc 0 (by omega)
  obtain ⟨b, off, spot⟩ := a
  have hspot : spot = none := by simpa [Addr.add] using World.cell?_spot g0
  subst hspot
  exact ⟨b, off, rfl⟩

/-- The cells of a row's record, plainly. -/
theorem rec_cells {b off i : Nat} {x0 x1 x2 x3 : Value} (h : w.cells? base ((⟨b, off, none⟩ : Addr).add (i * 4)) 4 = some [x0, x1, x2, x3]) :
    w.cell? ⟨b, off + i * 4, none⟩ = some x0 ∧ w.cell? ⟨b, off + i * 4 + 1, none⟩ = some x1 ∧ w.cell? ⟨b, off + i * 4 + 2, none⟩ = some x2 ∧ w.cell? ⟨b, off + i * 4 + 3, none⟩ = some x3 := by
  obtain ⟨_, _, hc⟩ := World.cells?_some h
  have g0 := hc 0 (by omega)
  have g1 := hc 1 (by omega)
  have g2 := hc 2 (by omega)
  have g3 := hc 3 (by omega)
  simp only [Go.WideShapes.add_plain] at g0 g1 g2 g3
  exact ⟨by simpa using g0, by simpa using g1, by simpa using g2, by simpa using g3⟩

/-- A list of terms that came in. -/
theorem open_terms {fuel : Nat} {cs : List Value} {x : DataW H × List MemPlace} (h : DataW.trod enc Try.prog w base spare held fuel 33 cs = some x) :
    ∃ (ao : Option Addr) (ts : List Tm) (cap : Nat), cs = [.slice ao ts.length cap] ∧ TermsIn w ao ts ∧ (ts = [] ∨ ∃ m ∈ x.1.weights Try.prog 33, ts.length * 24 ≤ m) := by
  rcases open_slice Try.underlying33 h with ⟨rfl, _⟩ | ⟨a, len, cap, m, n, D, Pl, rfl, _, hl, _, hm, rfl, hx⟩
  · exact ⟨none, [], 0, rfl, fun i hi => absurd hi (by simp), .inl rfl⟩
  · rw [cellsTerm] at hx
    have hle : len ≤ m := by rw [hm]; split <;> omega
    have hall : ∀ i, i < len → ∃ t : Tm, ∃ b off, a = ⟨b, off, none⟩ ∧ w.cell? ⟨b, off + i * 4, none⟩ = some (.bool t.an) ∧ w.cell? ⟨b, off + i * 4 + 1, none⟩ = some (.bool t.wd) ∧ w.cell? ⟨b, off + i * 4 + 2, none⟩ = some (.int .i64 t.op) ∧ w.cell? ⟨b, off + i * 4 + 3, none⟩ = some (.int .i64 t.vl) := by
      intro i hi
      obtain ⟨cs', h1, h2⟩ := hx i (by omega)
      obtain ⟨t, rfl⟩ := open_term h2
      obtain ⟨cs0, k1, _⟩ := hx 0 (by omega)
      obtain ⟨b, off, rfl⟩ := no_spot k1
      exact ⟨t, b, off, rfl, rec_cells h1⟩
    haveI : Inhabited Tm := ⟨⟨false, false, 0, 0⟩⟩
    obtain ⟨T, hT⟩ := choose_lt hall
    refine ⟨some a, (List.range len).map T, cap, by simp, ?_, .inr ⟨_, by simp only [DataW.weights, Try.underlying33]; exact List.mem_cons_self, ?_⟩⟩
    · intro i hi
      simp only [List.length_map, List.length_range] at hi
      obtain ⟨b, off, rfl, c⟩ := hT i hi
      exact ⟨b, off, rfl, by simpa using c⟩
    · simp only [List.length_map, List.length_range, bytesTerm]
      exact Nat.mul_le_mul_right _ (by omega)

theorem open_part {fuel : Nat} {cs : List Value} {x : DataW H × List MemPlace} (h : DataW.trod enc Try.prog w base spare held fuel 35 cs = some x) :
    ∃ (p : Pt) (tao : Option Addr) (tcap : Nat), cs = [.int .i64 p.ty, .int .i64 p.bt, .int .i64 p.ln, .slice tao p.ts.length tcap] ∧ TermsIn w tao p.ts ∧ (p.ts = [] ∨ ∃ m ∈ x.1.weights Try.prog 35, p.ts.length * 24 ≤ m) := by
  obtain ⟨y0, y1, y2, n, rfl, hl, h0, h1, h2⟩ := trod_struct3 Try.underlying35 h
  rw [cellsPart] at hl
  obtain ⟨a, b, c, d, rfl⟩ := four hl
  simp only [cellsInt, cellsPref, cellsTerms, List.drop_zero, List.drop_succ_cons, List.take_succ_cons, List.take_zero] at h0 h1 h2
  obtain ⟨n0, e0, _⟩ := DataW.trod_int Try.underlying3 h0
  obtain ⟨z0, z1, n', _, _, k0, k1⟩ := trod_struct2 Try.underlying32 h1
  simp only [cellsInt, List.drop_zero, List.drop_succ_cons, List.take_succ_cons, List.take_zero] at k0 k1
  obtain ⟨n1, e1, _⟩ := DataW.trod_int Try.underlying3 k0
  obtain ⟨n2, e2, _⟩ := DataW.trod_int Try.underlying3 k1
  obtain ⟨tao, ts, tcap, e3, ht, hw⟩ := open_terms h2
  simp only [List.cons.injEq, and_true] at e0 e1 e2 e3
  refine ⟨⟨n0, n1, n2, ts⟩, tao, tcap, by rw [e0, e1, e2, e3], ht, ?_⟩
  rcases hw with hw | ⟨m, hm, hle⟩
  · exact .inl hw
  · refine .inr ⟨m, ?_, hle⟩
    simp only [DataW.weights, Try.underlying35]
    exact DataW.weights_mem_each (j := 2) (t := 33) (d := y2.1) rfl rfl m hm

theorem all_mem {P : Program} {e : TypeId} : ∀ {ds : List (DataW H)} {d : DataW H}, d ∈ ds → ∀ m ∈ d.weights P e, m ∈ DataW.weightsAll P e ds
  | d0 :: ds, d, hd, m, hm => by
    simp only [DataW.weightsAll, List.mem_append]
    rcases List.mem_cons.1 hd with rfl | hd
    · exact .inl hm
    · exact .inr (all_mem hd m hm)

/-- A rule's parts that came in. -/
theorem open_parts {fuel : Nat} {cs : List Value} {x : DataW H × List MemPlace} (h : DataW.trod enc Try.prog w base spare held fuel 22 cs = some x) (hz : ∀ m ∈ x.1.weights Try.prog 22, m ≤ reachBytes) :
    ∃ (ao : Option Addr) (ps : List Pt) (cap : Nat), cs = [.slice ao ps.length cap] ∧ PartsIn w ao ps ∧ ps.length ≤ 5864062014803 ∧ ∀ p ∈ ps, p.ts.length ≤ 11000000000000 := by
  have hr : reachBytes = 140737488351232 := by decide
  rcases open_slice Try.underlying22 h with ⟨rfl, _⟩ | ⟨a, len, cap, m, n, D, Pl, rfl, _, hl, _, hm, rfl, hx⟩
  · exact ⟨none, [], 0, rfl, fun i hi => absurd hi (by simp), by simp, by simp⟩
  · rw [cellsPart] at hx
    have hle : len ≤ m := by rw [hm]; split <;> omega
    simp only [DataW.weights, Try.underlying22, List.mem_cons, List.mem_append, bytesPart, List.length_map, List.length_range] at hz
    have hlen := hz _ (.inl rfl)
    have hall : ∀ i, i < len → ∃ p : Pt, ∃ b off tao tcap, a = ⟨b, off, none⟩ ∧ w.cell? ⟨b, off + i * 4, none⟩ = some (.int .i64 p.ty) ∧ w.cell? ⟨b, off + i * 4 + 1, none⟩ = some (.int .i64 p.bt) ∧ w.cell? ⟨b, off + i * 4 + 2, none⟩ = some (.int .i64 p.ln) ∧ w.cell? ⟨b, off + i * 4 + 3, none⟩ = some (.slice tao p.ts.length tcap) ∧ p.ts.length ≤ 11000000000000 ∧ TermsIn w tao p.ts := by
      intro i hi
      obtain ⟨cs', h1, h2⟩ := hx i (by omega)
      obtain ⟨p, tao, tcap, rfl, ht, hw⟩ := open_part h2
      obtain ⟨cs0, k1, _⟩ := hx 0 (by omega)
      obtain ⟨b, off, rfl⟩ := no_spot k1
      obtain ⟨c0, c1, c2, c3⟩ := rec_cells h1
      refine ⟨p, b, off, tao, tcap, rfl, c0, c1, c2, c3, ?_, ht⟩
      rcases hw with hw | ⟨k, hk, hkl⟩
      · rw [hw]; simp
      · have := hz k (.inr (.inl (all_mem (List.mem_map.2 ⟨i, List.mem_range.2 hi, rfl⟩) k hk)))
        omega
    haveI : Inhabited Pt := ⟨⟨0, 0, 0, []⟩⟩
    obtain ⟨T, hT⟩ := choose_lt hall
    refine ⟨some a, (List.range len).map T, cap, by simp, ?_, by simp only [List.length_map, List.length_range]; omega, ?_⟩
    · intro i hi
      simp only [List.length_map, List.length_range] at hi
      obtain ⟨b, off, tao, tcap, rfl, c0, c1, c2, c3, hl', ht⟩ := hT i hi
      refine ⟨b, off, tao, tcap, rfl, ?_⟩
      simp only [List.getElem_map, List.getElem_range]
      exact ⟨c0, c1, c2, c3, by omega, ht⟩
    · intro p hp
      obtain ⟨i, hi, rfl⟩ := List.mem_map.1 hp
      obtain ⟨b, off, tao, tcap, _, _, _, _, _, hl', _⟩ := hT i (List.mem_range.1 hi)
      exact hl'
end
end Go.Proofs.Ytkdcjcemeipkjaa
