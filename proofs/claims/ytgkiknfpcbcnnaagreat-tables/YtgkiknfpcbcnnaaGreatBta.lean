import Derived.Test.YtgkiknfpcbcnnaaGreatTcc
import Derived.Laws.AppendOwnNone
namespace Go.Proofs.YtgkiknfpcbcnnaaGreat
open Go.RowKit
set_option maxRecDepth 20000
def fitZ (c b : ByteArray) : Bool := decide (c.size = b.size) && fitL (bl c) (bl b)
theorem fitL_len : ∀ (x y : List UInt8), fitL x y = true → x.length = y.length := by
  intro x
  induction x with
  | nil => intro y h; cases y with
    | nil => rfl
    | cons b y => simp [fitL] at h
  | cons a x ih => intro y h; cases y with
    | nil => simp [fitL] at h
    | cons b y =>
      simp only [fitL, Bool.and_eq_true] at h
      simp only [List.length_cons]
      rw [ih y h.2]
theorem fitZ_eq (c b : ByteArray) : fitZ c b = fitL (bl c) (bl b) := by
  unfold fitZ
  by_cases hs : c.size = b.size
  · rw [decide_eq_true hs, Bool.true_and]
  · rw [decide_eq_false hs, Bool.false_and]
    cases hf : fitL (bl c) (bl b)
    · rfl
    · have := fitL_len _ _ hf
      rw [bl_len, bl_len] at this
      exact absurd this hs
def firB (T : List En) (b : ByteArray) : Int := ((T.find? fun e => fitZ e.bt b).map En.ac).getD 0
theorem firB_eq (T : List En) (b : ByteArray) : firB T b = firA T (bl b) := by
  unfold firB firA
  have : (fun e : En => fitZ e.bt b) = fun e => fitL (bl e.bt) (bl b) := by funext e; exact fitZ_eq _ _
  rw [this]
theorem lacks_take (A B : List En) (i : Nat) (h : i < A.length) : lacks (A.take (i + 1)) B = lacks (A.take i) B + (if inT B A[i] then 0 else 1) := by
  unfold lacks
  rw [List.take_add_one, List.getElem?_eq_getElem h, List.countP_append]
  cases hh : inT B A[i] <;> simp [hh]
theorem inT_take (B : List En) (e : En) (k : Nat) (h : k < B.length) : inT (B.take (k + 1)) e = (inT (B.take k) e || enEq e B[k]) := by
  unfold inT
  rw [List.take_add_one, List.getElem?_eq_getElem h, List.any_append]
  simp
end Go.Proofs.YtgkiknfpcbcnnaaGreat
namespace Go.Proofs.YtgkiknfpcbcnnaaGreat
open Go.RowKit
set_option maxRecDepth 20000
theorem enCs_len (l : List En) : (enCs l).length = l.length * 3 := by
  induction l with
  | nil => rfl
  | cons a l ih =>
    have e : enCs (a :: l) = .string a.bt :: .int .i64 a.ac :: .string a.tx :: enCs l := rfl
    rw [e]
    simp only [List.length_cons]
    omega
theorem enCs_app (a b : List En) : enCs (a ++ b) = enCs a ++ enCs b := by simp [enCs]
theorem enCs_one (l : List En) : ∀ u ∈ enCs l, u.oneCell' = true := by
  intro u hu
  unfold enCs at hu
  obtain ⟨x, _, hx⟩ := List.mem_flatMap.1 hu
  exact enC_one x u hx
theorem addG (g o k : Nat) : (⟨g, o, none⟩ : Addr).add k = ⟨g, o + k, none⟩ := by unfold Addr.add; split <;> simp_all
theorem piece {w : World} {B g n c : Nat} {T : List En} (h : ERow w B (.slice (some ⟨g, 0, none⟩) n c) T) (p k : Nat) : ∀ (j : Nat) (u : Value), (enCs ((T.drop p).take k))[j]? = some u → w.cell? (Addr.add ⟨g, p * 3, none⟩ j) = some u := by
  intro j u hu
  have hlen := (List.getElem?_eq_some_iff.1 hu).1
  rw [enCs_len, List.length_take, List.length_drop] at hlen
  have hsplit : enCs T = enCs (T.take p) ++ (enCs ((T.drop p).take k) ++ enCs ((T.drop p).drop k)) := by
    rw [← enCs_app, List.take_append_drop, ← enCs_app, List.take_append_drop]
  have hp : (T.take p).length = p := by rw [List.length_take]; omega
  have e : (enCs T)[p * 3 + j]? = some u := by
    rw [hsplit, List.getElem?_append_right (by rw [enCs_len, hp]; omega), enCs_len, hp, show p * 3 + j - p * 3 = j by omega, List.getElem?_append_left (by rw [enCs_len, List.length_take, List.length_drop]; exact hlen)]
    exact hu
  have hc := h.cells (g := g) rfl (p * 3 + j) u e
  rw [add0, Nat.zero_add] at hc
  rw [addG]
  exact hc
end Go.Proofs.YtgkiknfpcbcnnaaGreat
namespace Go.Proofs.YtgkiknfpcbcnnaaGreat
open Go.RowKit
set_option maxRecDepth 20000
end Go.Proofs.YtgkiknfpcbcnnaaGreat
