import Derived.Test.YtgkiknfpcbcnnabGreatGaa
import Derived.Test.YtgkiknfpcbcnnabGreatGp
import Derived.BigQuiet
import Derived.Deep.RegionHeld3
namespace Go.Proofs.YtgkiknfpcbcnnabGreat
open Go.RowKit
set_option maxRecDepth 20000

theorem cutB_nat (b k : Nat) (hk : k ≤ 16) : cutB (b : Int) (k : Int) = ((b / 2 ^ (16 - k) * 2 ^ (16 - k) : Nat) : Int) := by
  unfold cutB
  have e : (16 - (k : Int)).toNat = 16 - k := by omega
  rw [e]
  simp

/-- Routes in memory. -/
def RtIn (w : World) (ao : Option Addr) (l : List Rt) : Prop :=
  ∀ i (h : i < l.length), ∃ b off, ao = some ⟨b, off, none⟩ ∧ b < w.heap.size ∧ w.cell? ⟨b, off + i * 4, none⟩ = some (.int .i64 l[i].pe) ∧ w.cell? ⟨b, off + i * 4 + 1, none⟩ = some (.int .i64 l[i].bt) ∧
    w.cell? ⟨b, off + i * 4 + 2, none⟩ = some (.int .i64 l[i].ln) ∧ w.cell? ⟨b, off + i * 4 + 3, none⟩ = some (.int .i64 l[i].pa)
theorem RtIn.below {w w' : World} {ao : Option Addr} {l : List Rt} (h : RtIn w ao l) (hb : Below w.heap.size w w') : RtIn w' ao l := by
  intro i hi
  obtain ⟨b, off, e, hlt, c0, c1, c2, c3⟩ := h i hi
  exact ⟨b, off, e, Nat.lt_of_lt_of_le hlt hb.size, (hb.cell hlt).trans c0, (hb.cell hlt).trans c1, (hb.cell hlt).trans c2, (hb.cell hlt).trans c3⟩
theorem rtCs_get : ∀ (l : List Rt) (i : Nat) (h : i < l.length), (rtCs l)[i * 4]? = some (.int .i64 l[i].pe) ∧ (rtCs l)[i * 4 + 1]? = some (.int .i64 l[i].bt) ∧ (rtCs l)[i * 4 + 2]? = some (.int .i64 l[i].ln) ∧ (rtCs l)[i * 4 + 3]? = some (.int .i64 l[i].pa) := by
  intro l
  induction l with
  | nil => intro i h; simp at h
  | cons a l ih =>
    intro i h
    have e : rtCs (a :: l) = .int .i64 a.pe :: .int .i64 a.bt :: .int .i64 a.ln :: .int .i64 a.pa :: rtCs l := rfl
    rw [e]
    cases i with
    | zero => exact ⟨rfl, rfl, rfl, rfl⟩
    | succ i =>
      have e1 : (i + 1) * 4 = i * 4 + 1 + 1 + 1 + 1 := by omega
      rw [e1]
      simp only [List.getElem?_cons_succ, List.getElem_cons_succ]
      exact ih i (by simpa using h)
end Go.Proofs.YtgkiknfpcbcnnabGreat

namespace Go.Proofs.YtgkiknfpcbcnnabGreat
open Go.RowKit
set_option maxRecDepth 20000

theorem best_bd (rts : List Rt) (bt ln : Int) : 0 ≤ best rts bt ln ∧ best rts bt ln ≤ 4 := by
  unfold best; split <;> omega
theorem best_some {rts : List Rt} {r : Rt} (hr : r ∈ rts) (hp : peOK r.pe = true) (ha : paOK r.pa = true) : best rts r.bt r.ln ≤ 3 := by
  have h := bw_low r.bt r.ln rts 1024 r hr rfl rfl
  simp only [peOK, paOK, Bool.and_eq_true, decide_eq_true_eq] at hp ha
  unfold best
  rw [if_neg (by omega)]
  omega

/-- The search for the longest prefix, k lengths to go. -/
def whoK (rts : List Rt) (bt : Int) : Nat → Int
  | 0 => 4
  | j + 1 => who rts bt j
theorem who_step (rts : List Rt) (bt : Int) (j : Nat) : who rts bt j = if best rts (cutB bt j) j = 4 then whoK rts bt j else best rts (cutB bt j) j := by
  cases j with
  | zero =>
    show best rts (cutB bt 0) 0 = if best rts (cutB bt 0) 0 = 4 then 4 else _
    split
    · assumption
    · rfl
  | succ j =>
    simp only [who, whoK]
    have e : ((j + 1 : Nat) : Int) = (j : Int) + 1 := by omega
    rw [e]

/-- A gate of the reference that can be read. -/
structure GRead (w : World) (g : Nat) (c : Cf) (ao : Option Addr) (cap : Nat) (rts : List Rt) : Prop where
  cp : w.cell? ⟨g, 0, none⟩ = some (.int .i64 c.cp)
  bu : w.cell? ⟨g, 1, none⟩ = some (.int .i64 c.bu)
  net : ∀ i : Nat, i < 4 → w.cell? ⟨g, 2 + i, none⟩ = some (.int .i64 (netF c i))
  rv : w.cell? ⟨g, 6, none⟩ = some (.slice ao rts.length cap)
  lt : g < w.heap.size
  rin : RtIn w ao rts
  r24 : rts.length ≤ 24
  ok : ∀ r ∈ rts, peOK r.pe = true ∧ prefOK r.bt r.ln = true ∧ paOK r.pa = true
theorem GRead.below {w w' : World} {g : Nat} {c : Cf} {ao : Option Addr} {cap : Nat} {rts : List Rt} (h : GRead w g c ao cap rts) (hb : Below w.heap.size w w') : GRead w' g c ao cap rts :=
  ⟨(hb.cell h.lt).trans h.cp, (hb.cell h.lt).trans h.bu, fun i hi => (hb.cell h.lt).trans (h.net i hi), (hb.cell h.lt).trans h.rv, Nat.lt_of_lt_of_le h.lt hb.size, h.rin.below hb, h.r24, h.ok⟩
/-- The first part of a rule that a gate holds, in memory. -/
structure P0 (w : World) (po : Option Addr) (p : Pt) : Prop where
  ex : ∃ b off, po = some ⟨b, off, none⟩ ∧ b < w.heap.size ∧ w.cell? ⟨b, off, none⟩ = some (.int .i64 p.ty) ∧ w.cell? ⟨b, off + 1, none⟩ = some (.int .i64 p.bt) ∧ w.cell? ⟨b, off + 2, none⟩ = some (.int .i64 p.ln)
theorem P0.below {w w' : World} {po : Option Addr} {p : Pt} (h : P0 w po p) (hb : Below w.heap.size w w') : P0 w' po p := by
  obtain ⟨b, off, e, hlt, c0, c1, c2⟩ := h.ex
  exact ⟨b, off, e, Nat.lt_of_lt_of_le hlt hb.size, (hb.cell hlt).trans c0, (hb.cell hlt).trans c1, (hb.cell hlt).trans c2⟩

theorem holdsP_no {c : Cf} {rts : List Rt} {p : Pt} {pe : Int} (h : p.ty ≠ 1) : holdsP c rts p pe = false := by unfold holdsP; rw [decide_eq_false h]; rfl

theorem cells_7 {w : World} {a b c d e f i : Value} {ty : Nat} {w1 : World} (hb : Below (w.alloc (.cells #[a, b, c, d, e, f, i] ty)).heap.size (w.alloc (.cells #[a, b, c, d, e, f, i] ty)) w1) :
    w1.cell? ⟨w.heap.size, 1, none⟩ = some b ∧ w1.cell? ⟨w.heap.size, 3, none⟩ = some d ∧ w.heap.size < w1.heap.size := by
  have hz := hb.size
  simp only [World.size_alloc] at hz
  refine ⟨?_, ?_, by omega⟩
  all_goals exact (hb.cell (by simp)).trans (by simp [go_sem])

/-- What the second loop asks of a route. -/
def bel1 (c : Cf) (rts : List Rt) (bt ln pe : Int) (r : Rt) : Bool := !(decide (ln < r.ln) && decide (cutB r.bt ln = bt)) || decide (netF c (Proofs.YtgkiknfpcbcnnabGreat.best rts r.bt r.ln) = netF c pe)

end Go.Proofs.YtgkiknfpcbcnnabGreat
