import Derived.Test.YtgkiknfpcbcnnaaGreatSbc
import Derived.Lib.SmallJoins
import Derived.SizedLaws
import Derived.Deep.Slices
import Derived.Deep.Strs
import Derived.Laws.IdiomArrays
import Derived.OpenShut
namespace Go.Proofs.YtgkiknfpcbcnnaaGreat
open Go.RowKit
set_option maxRecDepth 20000
def OpsIn (w : World) (ao : Option Addr) (l : List OpS) : Prop := ∀ i (h : i < l.length), ∃ b off, ao = some ⟨b, off, none⟩ ∧ b < w.heap.size ∧ w.rangeAt b (off + i * 19) (opL l[i])
theorem rangeAt_below {w w' : World} {b o : Nat} {cs : List Value} (h : w.rangeAt b o cs) (hz : b < w.heap.size) (hb : Below w.heap.size w w') : w'.rangeAt b o cs := fun j u hu => (hb.cell (p := ⟨b, o + j, none⟩) hz).trans (h j u hu)
theorem infoOp : (Tryz.prog.info? 43).map (·.size) = some 19 := by kernel_rfl
end Go.Proofs.YtgkiknfpcbcnnaaGreat
namespace Go.Proofs.YtgkiknfpcbcnnaaGreat
open Go.ChangeShapes Go.WideShapes Go.RowKit Go.Deep Go.Joins
set_option maxRecDepth 20000
namespace sta
theorem cellsOp : Tryz.prog.cellsOf 43 = 19 := by kernel_rfl
theorem cellsInt : Tryz.prog.cellsOf 3 = 1 := by kernel_rfl
theorem cellsBool : Tryz.prog.cellsOf 4 = 1 := by kernel_rfl
theorem cellsStr : Tryz.prog.cellsOf 9 = 1 := by kernel_rfl
theorem cellsPf : Tryz.prog.cellsOf 39 = 2 := by kernel_rfl
theorem cellsHd : Tryz.prog.cellsOf 41 = 6 := by kernel_rfl
theorem cellsCf : Tryz.prog.cellsOf 34 = 6 := by kernel_rfl
theorem cellsNet : Tryz.prog.cellsOf 32 = 4 := by kernel_rfl
theorem bytesOp : 150 ≤ Tryz.prog.bytesOf 43 := by decide +kernel
section
variable {H : Type} {enc : TypeId × Value → H} {w : World} {base : Nat} {spare : Nat → Bool} {held : Bool}
theorem six {α : Type} {l : List α} (h : l.length = 6) : ∃ a b c d e f, l = [a, b, c, d, e, f] := by
  match l, h with
  | [a, b, c, d, e, f], _ => exact ⟨a, b, c, d, e, f, rfl⟩
theorem nineteen {α : Type} {l : List α} (h : l.length = 19) : ∃ a0 a1 a2 a3 a4 a5 a6 a7 a8 a9 a10 a11 a12 a13 a14 a15 a16 a17 a18, l = [a0, a1, a2, a3, a4, a5, a6, a7, a8, a9, a10, a11, a12, a13, a14, a15, a16, a17, a18] := by
  match l, h with
  | [a0, a1, a2, a3, a4, a5, a6, a7, a8, a9, a10, a11, a12, a13, a14, a15, a16, a17, a18], _ => exact ⟨a0, a1, a2, a3, a4, a5, a6, a7, a8, a9, a10, a11, a12, a13, a14, a15, a16, a17, a18, rfl⟩
theorem tstruct3 {P : Program} {t : TypeId} {f0 f1 f2 : Field} {fuel : Nat} {cs : List Value} {x : DataW H × List MemPlace} (ht : P.underlying t = some (.struct #[f0, f1, f2])) (h : DataW.trod enc P w base spare held fuel t cs = some x) :
    ∃ y0 y1 y2 n, x.1 = .agg [y0.1, y1.1, y2.1] ∧ cs.length = P.cellsOf t ∧ DataW.trod enc P w base spare held n f0.type ((cs.drop f0.offset).take (P.cellsOf f0.type)) = some y0 ∧ DataW.trod enc P w base spare held n f1.type ((cs.drop f1.offset).take (P.cellsOf f1.type)) = some y1 ∧ DataW.trod enc P w base spare held n f2.type ((cs.drop f2.offset).take (P.cellsOf f2.type)) = some y2 := by
  obtain ⟨xs, n, _, rfl, hl, hlen, hf⟩ := DataW.trod_struct ht h
  match xs, hlen with
  | [y0, y1, y2], _ => exact ⟨y0, y1, y2, n, rfl, hl, by simpa using hf 0 f0 rfl, by simpa using hf 1 f1 rfl, by simpa using hf 2 f2 rfl⟩
theorem tstruct6 {P : Program} {t : TypeId} {f0 f1 f2 f3 f4 f5 : Field} {fuel : Nat} {cs : List Value} {x : DataW H × List MemPlace} (ht : P.underlying t = some (.struct #[f0, f1, f2, f3, f4, f5])) (h : DataW.trod enc P w base spare held fuel t cs = some x) :
    ∃ y0 y1 y2 y3 y4 y5 n, x.1 = .agg [y0.1, y1.1, y2.1, y3.1, y4.1, y5.1] ∧ cs.length = P.cellsOf t ∧ DataW.trod enc P w base spare held n f0.type ((cs.drop f0.offset).take (P.cellsOf f0.type)) = some y0 ∧ DataW.trod enc P w base spare held n f1.type ((cs.drop f1.offset).take (P.cellsOf f1.type)) = some y1 ∧ DataW.trod enc P w base spare held n f2.type ((cs.drop f2.offset).take (P.cellsOf f2.type)) = some y2 ∧ DataW.trod enc P w base spare held n f3.type ((cs.drop f3.offset).take (P.cellsOf f3.type)) = some y3 ∧ DataW.trod enc P w base spare held n f4.type ((cs.drop f4.offset).take (P.cellsOf f4.type)) = some y4 ∧ DataW.trod enc P w base spare held n f5.type ((cs.drop f5.offset).take (P.cellsOf f5.type)) = some y5 := by
  obtain ⟨xs, n, _, rfl, hl, hlen, hf⟩ := DataW.trod_struct ht h
  match xs, hlen with
  | [y0, y1, y2, y3, y4, y5], _ => exact ⟨y0, y1, y2, y3, y4, y5, n, rfl, hl, by simpa using hf 0 f0 rfl, by simpa using hf 1 f1 rfl, by simpa using hf 2 f2 rfl, by simpa using hf 3 f3 rfl, by simpa using hf 4 f4 rfl, by simpa using hf 5 f5 rfl⟩
theorem tstruct8 {P : Program} {t : TypeId} {f0 f1 f2 f3 f4 f5 f6 f7 : Field} {fuel : Nat} {cs : List Value} {x : DataW H × List MemPlace} (ht : P.underlying t = some (.struct #[f0, f1, f2, f3, f4, f5, f6, f7])) (h : DataW.trod enc P w base spare held fuel t cs = some x) :
    ∃ y0 y1 y2 y3 y4 y5 y6 y7 n, x.1 = .agg [y0.1, y1.1, y2.1, y3.1, y4.1, y5.1, y6.1, y7.1] ∧ cs.length = P.cellsOf t ∧ DataW.trod enc P w base spare held n f0.type ((cs.drop f0.offset).take (P.cellsOf f0.type)) = some y0 ∧ DataW.trod enc P w base spare held n f1.type ((cs.drop f1.offset).take (P.cellsOf f1.type)) = some y1 ∧ DataW.trod enc P w base spare held n f2.type ((cs.drop f2.offset).take (P.cellsOf f2.type)) = some y2 ∧ DataW.trod enc P w base spare held n f3.type ((cs.drop f3.offset).take (P.cellsOf f3.type)) = some y3 ∧ DataW.trod enc P w base spare held n f4.type ((cs.drop f4.offset).take (P.cellsOf f4.type)) = some y4 ∧ DataW.trod enc P w base spare held n f5.type ((cs.drop f5.offset).take (P.cellsOf f5.type)) = some y5 ∧ DataW.trod enc P w base spare held n f6.type ((cs.drop f6.offset).take (P.cellsOf f6.type)) = some y6 ∧ DataW.trod enc P w base spare held n f7.type ((cs.drop f7.offset).take (P.cellsOf f7.type)) = some y7 := by
  obtain ⟨xs, n, _, rfl, hl, hlen, hf⟩ := DataW.trod_struct ht h
  match xs, hlen with
  | [y0, y1, y2, y3, y4, y5, y6, y7], _ => exact ⟨y0, y1, y2, y3, y4, y5, y6, y7, n, rfl, hl, by simpa using hf 0 f0 rfl, by simpa using hf 1 f1 rfl, by simpa using hf 2 f2 rfl, by simpa using hf 3 f3 rfl, by simpa using hf 4 f4 rfl, by simpa using hf 5 f5 rfl, by simpa using hf 6 f6 rfl, by simpa using hf 7 f7 rfl⟩
theorem open_hd {fuel : Nat} {cs : List Value} {x : DataW H × List MemPlace} (h : DataW.trod enc Tryz.prog w base spare held fuel 41 cs = some x) :
    ∃ h : Hd, cs = [.int .i64 h.ds, .int .i64 h.sr, .int .i64 h.pr, .int .i64 h.po, .int .i64 h.fl, .bool h.la] := by
  obtain ⟨y0, y1, y2, y3, y4, y5, n, _, hl, h0, h1, h2, h3, h4, h5⟩ := tstruct6 Tryz.underlying41 h
  obtain ⟨c0, c1, c2, c3, c4, c5, rfl⟩ := six (hl.trans cellsHd)
  simp only [cellsInt, cellsBool, List.drop_zero, List.drop_succ_cons, List.take_succ_cons, List.take_zero] at h0 h1 h2 h3 h4 h5
  obtain ⟨n0, e0, _⟩ := DataW.trod_int Tryz.underlying3 h0
  obtain ⟨n1, e1, _⟩ := DataW.trod_int Tryz.underlying3 h1
  obtain ⟨n2, e2, _⟩ := DataW.trod_int Tryz.underlying3 h2
  obtain ⟨n3, e3, _⟩ := DataW.trod_int Tryz.underlying3 h3
  obtain ⟨n4, e4, _⟩ := DataW.trod_int Tryz.underlying3 h4
  obtain ⟨n5, e5, _⟩ := DataW.trod_bool Tryz.underlying4 h5
  simp only [List.cons.injEq, and_true] at e0 e1 e2 e3 e4 e5
  exact ⟨⟨n0, n1, n2, n3, n4, n5⟩, by rw [e0, e1, e2, e3, e4, e5]⟩
theorem open_cf {fuel : Nat} {cs : List Value} {x : DataW H × List MemPlace} (h : DataW.trod enc Tryz.prog w base spare held fuel 34 cs = some x) :
    ∃ c : Cf, cs = [.int .i64 c.cp, .int .i64 c.bu, .int .i64 c.n0, .int .i64 c.n1, .int .i64 c.n2, .int .i64 c.n3] := by
  obtain ⟨y0, y1, y2, n, _, hl, h0, h1, h2⟩ := tstruct3 Tryz.underlying34 h
  obtain ⟨c0, c1, c2, c3, c4, c5, rfl⟩ := six (hl.trans cellsCf)
  simp only [cellsInt, cellsNet, List.drop_zero, List.drop_succ_cons, List.take_succ_cons, List.take_zero] at h0 h1 h2
  obtain ⟨n0, e0, _⟩ := DataW.trod_int Tryz.underlying3 h0
  obtain ⟨n1, e1, _⟩ := DataW.trod_int Tryz.underlying3 h1
  obtain ⟨z0, z1, z2, z3, m, _, g0, g1, g2, g3⟩ := trod_array4 Tryz.underlying32 cellsInt h2
  obtain ⟨n2, e2, _⟩ := DataW.trod_int Tryz.underlying3 g0
  obtain ⟨n3, e3, _⟩ := DataW.trod_int Tryz.underlying3 g1
  obtain ⟨n4, e4, _⟩ := DataW.trod_int Tryz.underlying3 g2
  obtain ⟨n5, e5, _⟩ := DataW.trod_int Tryz.underlying3 g3
  simp only [List.cons.injEq, and_true] at e0 e1 e2 e3 e4 e5
  exact ⟨⟨n0, n1, n2, n3, n4, n5⟩, by rw [e0, e1, e2, e3, e4, e5]⟩
theorem i64_of {n : Int} (h : (Lit.int .i64 n).wf = true) : i64 n := by
  have hb := bounds_i64 h
  exact ⟨hb.1, hb.2⟩
theorem open_op {fuel : Nat} {cs : List Value} {x : DataW H × List MemPlace} (h : DataW.trod enc Tryz.prog w base spare held fuel 43 cs = some x) :
    ∃ o : OpS, cs = opL o ∧ i64 o.gt ∧ i64 o.pe ∧ i64 o.nn ∧ i64 o.bt ∧ i64 o.ln ∧ ∃ m ∈ x.1.weights Tryz.prog 43, o.tx.size ≤ m := by
  obtain ⟨y0, y1, y2, y3, y4, y5, y6, y7, n, hx, hl, h0, h1, h2, h3, h4, h5, h6, h7⟩ := tstruct8 Tryz.underlying43 h
  obtain ⟨a0, a1, a2, a3, a4, a5, a6, a7, a8, a9, a10, a11, a12, a13, a14, a15, a16, a17, a18, rfl⟩ := nineteen (hl.trans cellsOp)
  simp only [cellsInt, cellsStr, cellsPf, cellsHd, cellsCf, List.drop_zero, List.drop_succ_cons, List.take_succ_cons, List.take_zero] at h0 h1 h2 h3 h4 h5 h6 h7
  obtain ⟨n0, e0, _⟩ := DataW.trod_int Tryz.underlying3 h0
  obtain ⟨n1, e1, _, b1⟩ := DataW.trod_int Tryz.underlying3 h1
  obtain ⟨n2, e2, _, b2⟩ := DataW.trod_int Tryz.underlying3 h2
  obtain ⟨n3, e3, _, b3⟩ := DataW.trod_int Tryz.underlying3 h3
  obtain ⟨s4, e4, x4, _⟩ := DataW.trod_string Tryz.underlying9 h4
  obtain ⟨z0, z1, n', _, _, k0, k1⟩ := trod_struct2 Tryz.underlying39 h5
  simp only [cellsInt, List.drop_zero, List.drop_succ_cons, List.take_succ_cons, List.take_zero] at k0 k1
  obtain ⟨n5, e5, _, b5⟩ := DataW.trod_int Tryz.underlying3 k0
  obtain ⟨n6, e6, _, b6⟩ := DataW.trod_int Tryz.underlying3 k1
  obtain ⟨hd, e7⟩ := open_hd h6
  obtain ⟨cf, e8⟩ := open_cf h7
  simp only [List.cons.injEq, and_true] at e0 e1 e2 e3 e4 e5 e6 e7 e8
  obtain ⟨f0, f1, f2, f3, f4, f5⟩ := e7
  obtain ⟨g0, g1, g2, g3, g4, g5⟩ := e8
  refine ⟨⟨n0, n1, n2, n3, s4, n5, n6, hd, cf⟩, by rw [e0, e1, e2, e3, e4, e5, e6, f0, f1, f2, f3, f4, f5, g0, g1, g2, g3, g4, g5]; rfl, i64_of b1, i64_of b2, i64_of b3, i64_of b5, i64_of b6, s4.data.toList.length, ?_, ?_⟩
  · rw [hx]
    simp only [DataW.weights, Tryz.underlying43]
    refine DataW.weights_mem_each (j := 4) (t := 9) (d := y4.1) rfl rfl _ ?_
    rw [x4]
    simp [DataW.weights]
  · rw [Array.length_toList]; exact Nat.le_refl _
theorem no_spot19 {a : Addr} {cs : List Value} (h : w.cells? base (a.add (0 * 19)) 19 = some cs) : ∃ b off, a = ⟨b, off, none⟩ := by
  obtain ⟨_, hl, hc⟩ := World.cells?_some h
  obtain ⟨a0, a1, a2, a3, a4, a5, a6, a7, a8, a9, a10, a11, a12, a13, a14, a15, a16, a17, a18, rfl⟩ := nineteen hl
  have g0 := hc 0 (by simp)
  obtain ⟨b, off, spot⟩ := a
  have hspot : spot = none := by simpa [Addr.add] using World.cell?_spot g0
  subst hspot
  exact ⟨b, off, rfl⟩
theorem rec_range {b off i : Nat} {cs : List Value} (h : w.cells? base ((⟨b, off, none⟩ : Addr).add (i * 19)) 19 = some cs) : w.rangeAt b (off + i * 19) cs := by
  obtain ⟨_, hl, hc⟩ := World.cells?_some h
  intro j u hu
  have hj : j < cs.length := by
    rcases Nat.lt_or_ge j cs.length with hh | hh
    · exact hh
    · rw [List.getElem?_eq_none hh] at hu; cases hu
  have g := hc j (by omega)
  simp only [Go.WideShapes.add_plain] at g
  exact g.trans hu
theorem all_mem {P : Program} {e : TypeId} : ∀ {ds : List (DataW H)} {d : DataW H}, d ∈ ds → ∀ m ∈ d.weights P e, m ∈ DataW.weightsAll P e ds
  | d0 :: ds, d, hd, m, hm => by
    simp only [DataW.weightsAll, List.mem_append]
    rcases List.mem_cons.1 hd with rfl | hd
    · exact .inl hm
    · exact .inr (all_mem hd m hm)
theorem open_ops {fuel : Nat} {cs : List Value} {x : DataW H × List MemPlace} (h : DataW.trod enc Tryz.prog w base spare held fuel 22 cs = some x) (hz : ∀ m ∈ x.1.weights Tryz.prog 22, m ≤ reachBytes) :
    ∃ (ao : Option Addr) (l : List OpS) (cap : Nat), cs = [.slice ao l.length cap] ∧ OpsIn w ao l ∧ l.length ≤ 1000000000000 ∧ ∀ o ∈ l, OpOK o := by
  have hr : reachBytes = 140737488351232 := by decide
  rcases open_slice Tryz.underlying22 h with ⟨rfl, _⟩ | ⟨a, len, cap, m, n, D, Pl, rfl, _, hl, _, hm, rfl, hx⟩
  · exact ⟨none, [], 0, rfl, fun i hi => absurd hi (by simp), by simp, by simp⟩
  · rw [cellsOp] at hx
    have hle : len ≤ m := by rw [hm]; split <;> omega
    simp only [DataW.weights, Tryz.underlying22, List.mem_cons, List.mem_append, List.length_map, List.length_range] at hz
    have hlen := hz _ (.inl rfl)
    have hall : ∀ i, i < len → ∃ o : OpS, (∃ b off, a = ⟨b, off, none⟩ ∧ b < w.heap.size ∧ w.rangeAt b (off + i * 19) (opL o)) ∧ OpOK o := by
      intro i hi
      obtain ⟨cs', h1, h2⟩ := hx i (by omega)
      obtain ⟨o, rfl, q1, q2, q3, q4, q5, k, hk, hkl⟩ := open_op h2
      obtain ⟨cs0, k1, _⟩ := hx 0 (by omega)
      obtain ⟨b, off, rfl⟩ := no_spot19 k1
      have hrg := rec_range h1
      have hb : b < w.heap.size := World.block_lt_of_cell? _ _ (hrg 0 _ rfl)
      refine ⟨o, ⟨b, off, rfl, hb, hrg⟩, q1, q2, q3, q4, q5, ?_⟩
      have := hz k (.inr (.inl (all_mem (List.mem_map.2 ⟨i, List.mem_range.2 hi, rfl⟩) k hk)))
      omega
    haveI : Inhabited OpS := ⟨⟨0, 0, 0, 0, ⟨#[]⟩, 0, 0, ⟨0, 0, 0, 0, 0, false⟩, ⟨0, 0, 0, 0, 0, 0⟩⟩⟩
    obtain ⟨T, hT⟩ := choose_lt hall
    refine ⟨some a, (List.range len).map T, cap, by simp, ?_, ?_, ?_⟩
    · intro i hi
      simp only [List.length_map, List.length_range] at hi
      obtain ⟨⟨b, off, rfl, hb, c⟩, _⟩ := hT i hi
      exact ⟨b, off, rfl, hb, by simpa using c⟩
    · simp only [List.length_map, List.length_range]
      have hB := bytesOp
      have h1 : (len + (m - len)) * 150 ≤ (len + (m - len)) * Tryz.prog.bytesOf 43 := Nat.mul_le_mul_left _ hB
      have h2 : (len + (m - len)) * 150 ≤ 140737488351232 := Nat.le_trans h1 (hr ▸ hlen)
      have h3 : len * 150 ≤ 140737488351232 := Nat.le_trans (Nat.mul_le_mul_right _ (Nat.le_add_right _ _)) h2
      exact Nat.le_of_mul_le_mul_right (Nat.le_trans h3 (by decide)) (by decide : 0 < 150)
    · intro o ho
      simp only [List.mem_map, List.mem_range] at ho
      obtain ⟨i, hi, rfl⟩ := ho
      exact (hT i hi).2
end
end sta
end Go.Proofs.YtgkiknfpcbcnnaaGreat
