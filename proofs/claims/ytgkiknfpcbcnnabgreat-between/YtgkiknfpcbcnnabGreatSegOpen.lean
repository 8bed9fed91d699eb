import Derived.Test.YtgkiknfpcbcnnabGreatSce
import Derived.Lib.SmallJoins
import Derived.SizedLaws
import Derived.Deep.Slices
import Derived.Deep.Strs
import Derived.Laws.IdiomArrays
import Derived.OpenShut
namespace Go.Proofs.YtgkiknfpcbcnnabGreat
open Go.ChangeShapes Go.WideShapes Go.RowKit Go.Deep Go.Joins
set_option maxRecDepth 20000

namespace seg
theorem cellsInt : Tryz.prog.cellsOf 3 = 1 := by kernel_rfl
theorem cellsBool : Tryz.prog.cellsOf 4 = 1 := by kernel_rfl
theorem cellsInts : Tryz.prog.cellsOf 54 = 1 := by kernel_rfl
theorem cellsStep : Tryz.prog.cellsOf 112 = 5 := by kernel_rfl
theorem cellsCf : Tryz.prog.cellsOf 24 = 6 := by kernel_rfl
theorem cellsNet : Tryz.prog.cellsOf 22 = 4 := by kernel_rfl

section
variable {H : Type} {enc : TypeId × Value → H} {w : World} {base : Nat} {spare : Nat → Bool} {held : Bool}

theorem five {α : Type} {l : List α} (h : l.length = 5) : ∃ a b c d e, l = [a, b, c, d, e] := by
  match l, h with
  | [a, b, c, d, e], _ => exact ⟨a, b, c, d, e, rfl⟩
theorem six {α : Type} {l : List α} (h : l.length = 6) : ∃ a b c d e f, l = [a, b, c, d, e, f] := by
  match l, h with
  | [a, b, c, d, e, f], _ => exact ⟨a, b, c, d, e, f, rfl⟩
theorem tstruct3 {P : Program} {t : TypeId} {f0 f1 f2 : Field} {fuel : Nat} {cs : List Value} {x : DataW H × List MemPlace} (ht : P.underlying t = some (.struct #[f0, f1, f2])) (h : DataW.trod enc P w base spare held fuel t cs = some x) :
    ∃ y0 y1 y2 n, x.1 = .agg [y0.1, y1.1, y2.1] ∧ cs.length = P.cellsOf t ∧ DataW.trod enc P w base spare held n f0.type ((cs.drop f0.offset).take (P.cellsOf f0.type)) = some y0 ∧ DataW.trod enc P w base spare held n f1.type ((cs.drop f1.offset).take (P.cellsOf f1.type)) = some y1 ∧ DataW.trod enc P w base spare held n f2.type ((cs.drop f2.offset).take (P.cellsOf f2.type)) = some y2 := by
  obtain ⟨xs, n, _, rfl, hl, hlen, hf⟩ := DataW.trod_struct ht h
  match xs, hlen with
  | [y0, y1, y2], _ => exact ⟨y0, y1, y2, n, rfl, hl, by simpa using hf 0 f0 rfl, by simpa using hf 1 f1 rfl, by simpa using hf 2 f2 rfl⟩
theorem tstruct5 {P : Program} {t : TypeId} {f0 f1 f2 f3 f4 : Field} {fuel : Nat} {cs : List Value} {x : DataW H × List MemPlace} (ht : P.underlying t = some (.struct #[f0, f1, f2, f3, f4])) (h : DataW.trod enc P w base spare held fuel t cs = some x) :
    ∃ y0 y1 y2 y3 y4 n, x.1 = .agg [y0.1, y1.1, y2.1, y3.1, y4.1] ∧ cs.length = P.cellsOf t ∧ DataW.trod enc P w base spare held n f0.type ((cs.drop f0.offset).take (P.cellsOf f0.type)) = some y0 ∧ DataW.trod enc P w base spare held n f1.type ((cs.drop f1.offset).take (P.cellsOf f1.type)) = some y1 ∧ DataW.trod enc P w base spare held n f2.type ((cs.drop f2.offset).take (P.cellsOf f2.type)) = some y2 ∧ DataW.trod enc P w base spare held n f3.type ((cs.drop f3.offset).take (P.cellsOf f3.type)) = some y3 ∧ DataW.trod enc P w base spare held n f4.type ((cs.drop f4.offset).take (P.cellsOf f4.type)) = some y4 := by
  obtain ⟨xs, n, _, rfl, hl, hlen, hf⟩ := DataW.trod_struct ht h
  match xs, hlen with
  | [y0, y1, y2, y3, y4], _ => exact ⟨y0, y1, y2, y3, y4, n, rfl, hl, by simpa using hf 0 f0 rfl, by simpa using hf 1 f1 rfl, by simpa using hf 2 f2 rfl, by simpa using hf 3 f3 rfl, by simpa using hf 4 f4 rfl⟩
theorem i64_of {n : Int} (h : (Lit.int .i64 n).wf = true) : i64 n := by
  have hb := bounds_i64 h
  exact ⟨hb.1, hb.2⟩
/-- A configuration that came in, opened. -/
theorem open_cf {fuel : Nat} {cs : List Value} {x : DataW H × List MemPlace} (h : DataW.trod enc Tryz.prog w base spare held fuel 24 cs = some x) :
    ∃ c : Cf, cs = [.int .i64 c.cp, .int .i64 c.bu, .int .i64 c.n0, .int .i64 c.n1, .int .i64 c.n2, .int .i64 c.n3] ∧ CfI c := by
  obtain ⟨y0, y1, y2, n, _, hl, h0, h1, h2⟩ := tstruct3 Tryz.underlying24 h
  obtain ⟨c0, c1, c2, c3, c4, c5, rfl⟩ := six (hl.trans cellsCf)
  simp only [cellsInt, cellsNet, List.drop_zero, List.drop_succ_cons, List.take_succ_cons, List.take_zero] at h0 h1 h2
  obtain ⟨n0, e0, _, b0⟩ := DataW.trod_int Tryz.underlying3 h0
  obtain ⟨n1, e1, _, b1⟩ := DataW.trod_int Tryz.underlying3 h1
  obtain ⟨z0, z1, z2, z3, m, _, g0, g1, g2, g3⟩ := trod_array4 Tryz.underlying22 cellsInt h2
  obtain ⟨n2, e2, _, b2⟩ := DataW.trod_int Tryz.underlying3 g0
  obtain ⟨n3, e3, _, b3⟩ := DataW.trod_int Tryz.underlying3 g1
  obtain ⟨n4, e4, _, b4⟩ := DataW.trod_int Tryz.underlying3 g2
  obtain ⟨n5, e5, _, b5⟩ := DataW.trod_int Tryz.underlying3 g3
  simp only [List.cons.injEq, and_true] at e0 e1 e2 e3 e4 e5
  exact ⟨⟨n0, n1, n2, n3, n4, n5⟩, by rw [e0, e1, e2, e3, e4, e5], i64_of b0, i64_of b1, i64_of b2, i64_of b3, i64_of b4, i64_of b5⟩
/-- A step of a script. -/
theorem open_step {fuel : Nat} {cs : List Value} {x : DataW H × List MemPlace} (h : DataW.trod enc Tryz.prog w base spare held fuel 112 cs = some x) :
    ∃ s : StS, cs = [.int .i64 s.kd, .int .i64 s.pr, .int .i64 s.nn, .slice s.lo s.ll s.lc, .bool s.ak] ∧ StOK w w.heap.size s := by
  obtain ⟨y0, y1, y2, y3, y4, n, _, hl, h0, h1, h2, h3, h4⟩ := tstruct5 Tryz.underlying112 h
  obtain ⟨c0, c1, c2, c3, c4, rfl⟩ := five (hl.trans cellsStep)
  simp only [cellsInt, cellsBool, cellsInts, List.drop_zero, List.drop_succ_cons, List.take_succ_cons, List.take_zero] at h0 h1 h2 h3 h4
  obtain ⟨n0, e0, _, b0⟩ := DataW.trod_int Tryz.underlying3 h0
  obtain ⟨n1, e1, _, b1⟩ := DataW.trod_int Tryz.underlying3 h1
  obtain ⟨n2, e2, _, b2⟩ := DataW.trod_int Tryz.underlying3 h2
  obtain ⟨n4, e4, _⟩ := DataW.trod_bool Tryz.underlying4 h4
  simp only [List.cons.injEq, and_true] at e0 e1 e2 e4
  rcases open_ints Tryz.underlying54 Tryz.underlying3 cellsInt h3 with ⟨e3, _⟩ | ⟨a, l, c, zs, e3, _, hlc, hm, hz, _, hcell, hwz⟩
  · simp only [List.cons.injEq, and_true] at e3
    exact ⟨⟨n0, n1, n2, none, 0, 0, n4⟩, by rw [e0, e1, e2, e3, e4], i64_of b1, i64_of b2, by simp, fun i hi => absurd hi (by simp)⟩
  · simp only [List.cons.injEq, and_true] at e3
    have hlz : l ≤ zs.length := by rw [hz]; split <;> omega
    have hmx : maxLen ≤ 9223372036854775807 := by decide
    refine ⟨⟨n0, n1, n2, some a, l, c, n4⟩, by rw [e0, e1, e2, e3, e4], i64_of b1, i64_of b2, Nat.le_trans hlc (Nat.le_trans hm hmx), ?_⟩
    intro i hi
    have hi' : i < l := hi
    obtain ⟨b, off, rfl, hc⟩ := ints_at hcell (by omega)
    have hmem : zs.getD i 0 ∈ zs := by rw [List.getD_eq_getElem?_getD, List.getElem?_eq_getElem (by omega)]; exact List.getElem_mem _
    have hb := bounds_i64 (hwz _ hmem)
    have hci := hc i (by omega)
    exact ⟨b, off, zs.getD i 0, rfl, World.block_lt_of_cell? _ _ hci, hci, hb.1, hb.2⟩
theorem no_spot5 {a : Addr} {cs : List Value} (h : w.cells? base (a.add (0 * 5)) 5 = some cs) : ∃ b off, a = ⟨b, off, none⟩ := by
  obtain ⟨_, hl, hc⟩ := World.cells?_some h
  obtain ⟨a0, a1, a2, a3, a4, rfl⟩ := five hl
  have g0 := hc 0 (by simp)
  obtain ⟨b, off, spot⟩ := a
  have hspot : spot = none := by simpa [Addr.add] using World.cell?_spot g0
  subst hspot
  exact ⟨b, off, rfl⟩
theorem rec_range {b off i : Nat} {cs : List Value} (h : w.cells? base ((⟨b, off, none⟩ : Addr).add (i * 5)) 5 = some cs) : w.rangeAt b (off + i * 5) cs := by
  obtain ⟨_, hl, hc⟩ := World.cells?_some h
  intro j u hu
  have hj : j < cs.length := by
    rcases Nat.lt_or_ge j cs.length with hh | hh
    · exact hh
    · rw [List.getElem?_eq_none hh] at hu; cases hu
  have g := hc j (by omega)
  simp only [Go.WideShapes.add_plain] at g
  exact g.trans hu
/-- A script that came in, opened. -/
theorem open_steps {fuel : Nat} {cs : List Value} {x : DataW H × List MemPlace} (h : DataW.trod enc Tryz.prog w base spare held fuel 25 cs = some x) :
    ∃ (ao : Option Addr) (l : List StS) (cap : Nat), cs = [.slice ao l.length cap] ∧ StepsB w w.heap.size ao l ∧ l.length ≤ 9223372036854775807 := by
  rcases open_slice Tryz.underlying25 h with ⟨rfl, _⟩ | ⟨a, len, cap, m, n, D, Pl, rfl, _, hl, hmax, hm, rfl, hx⟩
  · exact ⟨none, [], 0, rfl, fun i hi => absurd hi (by simp), by simp⟩
  · rw [cellsStep] at hx
    have hle : len ≤ m := by rw [hm]; split <;> omega
    have hmx : maxLen ≤ 9223372036854775807 := by decide
    have hall : ∀ i, i < len → ∃ s : StS, (∃ b off, a = ⟨b, off, none⟩ ∧ b < w.heap.size ∧ w.rangeAt b (off + i * 5) [.int .i64 s.kd, .int .i64 s.pr, .int .i64 s.nn, .slice s.lo s.ll s.lc, .bool s.ak]) ∧ StOK w w.heap.size s := by
      intro i hi
      obtain ⟨cs', h1, h2⟩ := hx i (by omega)
      obtain ⟨s, rfl, q⟩ := open_step h2
      obtain ⟨cs0, k1, _⟩ := hx 0 (by omega)
      obtain ⟨b, off, rfl⟩ := no_spot5 k1
      have hrg := rec_range h1
      exact ⟨s, ⟨b, off, rfl, World.block_lt_of_cell? _ _ (hrg 0 _ rfl), hrg⟩, q⟩
    haveI : Inhabited StS := ⟨⟨0, 0, 0, none, 0, 0, false⟩⟩
    obtain ⟨T, hT⟩ := choose_lt hall
    refine ⟨some a, (List.range len).map T, cap, by simp, ?_, ?_⟩
    · intro i hi
      simp only [List.length_map, List.length_range] at hi
      obtain ⟨⟨b, off, rfl, hb, c⟩, q⟩ := hT i hi
      have e : ((List.range len).map T)[i]'(by simpa using hi) = T i := by simp
      rw [e]
      exact ⟨⟨b, off, rfl, hb, c 0 _ rfl, c 1 _ rfl, c 2 _ rfl, c 3 _ rfl, c 4 _ rfl⟩, q⟩
    · simp only [List.length_map, List.length_range]
      omega
end
end seg
end Go.Proofs.YtgkiknfpcbcnnabGreat
