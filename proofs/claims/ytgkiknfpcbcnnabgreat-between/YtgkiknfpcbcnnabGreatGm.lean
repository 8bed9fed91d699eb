import Derived.Test.YtgkiknfpcbcnnabGreatGl
import Derived.Test.YtgkiknfpcbcnnabGreatGd
import Derived.Laws.AppendOwnNone
namespace Go.Proofs.YtgkiknfpcbcnnabGreat
open Go.RowKit
set_option maxRecDepth 20000

/-- The number that digits say, nought behind their end. -/
def lv (pre : List UInt8) : Nat → Nat
  | 0 => 0
  | j + 1 => 2 * lv pre j + (if pre[j]? = some 49 then 1 else 0)
def dv (pre : List UInt8) : Nat := lv pre pre.length

theorem lv_lt (pre : List UInt8) : ∀ j, lv pre j < 2 ^ j := by
  intro j
  induction j with
  | zero => simp [lv]
  | succ j ih => simp only [lv]; rw [Nat.pow_succ]; split <;> omega
theorem lv_app (pre r : List UInt8) : ∀ j, j ≤ pre.length → lv (pre ++ r) j = lv pre j := by
  intro j
  induction j with
  | zero => intro _; rfl
  | succ j ih => intro h; simp only [lv]; rw [ih (by omega), List.getElem?_append_left (by omega)]
theorem dv_snoc (pre : List UInt8) (d : UInt8) : dv (pre ++ [d]) = 2 * dv pre + (if d = 49 then 1 else 0) := by
  unfold dv
  rw [List.length_append, List.length_singleton]
  show 2 * lv (pre ++ [d]) pre.length + _ = _
  rw [lv_app pre [d] _ (Nat.le_refl _)]
  simp
theorem lv_more (pre : List UInt8) : ∀ n, lv pre (pre.length + n) = dv pre * 2 ^ n := by
  intro n
  induction n with
  | zero => simp [dv]
  | succ n ih =>
    show 2 * lv pre (pre.length + n) + (if pre[pre.length + n]? = some 49 then 1 else 0) = _
    rw [ih, List.getElem?_eq_none (Nat.le_add_right _ _), Nat.pow_succ]
    simp only [reduceCtorEq, if_false, Nat.add_zero]
    rw [Nat.mul_comm 2, Nat.mul_assoc]

/-- Stars. -/
def stB : Nat → ByteArray
  | 0 => ⟨#[]⟩
  | k + 1 => stB k ++ ⟨#[42]⟩
theorem stB_size : ∀ k, (stB k).size = k := by
  intro k
  induction k with
  | zero => rfl
  | succ k ih => simp only [stB, ByteArray.size_append, ih]; rfl
theorem bl_stB : ∀ k, bl (stB k) = List.replicate k 42 := by
  intro k
  induction k with
  | zero => rfl
  | succ k ih => simp only [stB, bl_app, ih]; rw [List.replicate_succ']; rfl

theorem covS_len (f : Nat → Bool) : ∀ n pre x, (covS f n pre x).length ≤ 2 ^ n := by
  intro n
  induction n with
  | zero => intro pre x; simp only [covS]; split <;> simp
  | succ n ih =>
    intro pre x
    simp only [covS]
    split
    · split
      · rw [List.length_append, Nat.pow_succ]; have h1 := ih (pre ++ [48]) (2 * x); have h2 := ih (pre ++ [49]) (2 * x + 1); omega
      · simp; exact Nat.one_le_two_pow
    · simp

theorem covS_eq (f : Nat → Bool) (n : Nat) (pre : List UInt8) (x : Nat) :
    (yesB f n x = false → covS f n pre x = []) ∧ (yesB f n x = true → noB f n x = false → covS f n pre x = [pre ++ List.replicate n 42]) ∧
    (yesB f n x = true → noB f n x = true → ∃ k, n = k + 1 ∧ covS f n pre x = covS f k (pre ++ [48]) (2 * x) ++ covS f k (pre ++ [49]) (2 * x + 1)) := by
  cases n with
  | zero =>
    have e1 : yesB f 0 x = f x := by unfold yesB; simp [anyB]
    have e2 : noB f 0 x = !f x := by unfold noB; simp [anyB]
    rw [e1, e2]
    refine ⟨fun h => by simp [covS, h], fun h _ => by simp [covS, h], fun h1 h2 => by rw [h1] at h2; simp at h2⟩
  | succ n =>
    refine ⟨fun h => by simp [covS, h], fun h h2 => by simp [covS, h, h2], fun h1 h2 => ⟨n, rfl, by simp [covS, h1, h2]⟩⟩

theorem infoStr : (Tryz.prog.info? 9).map (fun i => (i.zero, i.size, i.bytes)) = some (some (.string ⟨#[]⟩), 1, 16) := by kernel_rfl

/-- A row of texts. -/
def StrRow (w : World) (B : Nat) (v : Value) (L : List ByteArray) : Prop := w.ownsRow B 9 1 v L.length (L.map Value.string)

theorem StrRow.nil (w : World) (B : Nat) : StrRow w B (.slice none 0 0) [] := World.ownsRow_nil _ _ _ _
theorem StrRow.below {w w' : World} {B : Nat} {v : Value} {L : List ByteArray} (h : StrRow w B v L) (hb : Below w.heap.size w w') : StrRow w' B v L := ownsRow_below h hb
theorem StrRow.base {w : World} {B B' : Nat} {v : Value} {L : List ByteArray} (h : StrRow w B v L) (hb : B' ≤ B) : StrRow w B' v L := by
  refine ⟨h.1, ?_⟩
  rcases h.2 with h | ⟨g, cap, cur, hv, hg, r⟩
  · exact .inl h
  · exact .inr ⟨g, cap, cur, hv, by omega, r⟩
theorem StrRow.one (w : World) (B : Nat) (s : ByteArray) (hB : B ≤ w.heap.size) : StrRow (w.alloc (.cells #[.string s] 9)) B (.slice (some ⟨w.heap.size, 0, none⟩) 1 1) [s] :=
  ⟨rfl, .inr ⟨w.heap.size, 1, #[.string s], rfl, hB, heap_alloc_new w _, Nat.le_refl _, by unfold maxLen; omega, rfl, rfl⟩⟩

/-- What cover answers. -/
def CovPost (f : Nat → Bool) (n : Nat) (pre : List UInt8) (B : Nat) (e : Ending) (w' : World) : Prop :=
  ∃ (v : Value) (L : List ByteArray), e = .returned v ∧ StrRow w' B v L ∧ L.map bl = covS f n pre (dv pre)

theorem bl_at (B : ByteArray) (j : Nat) (h : j < B.size) : (bl B)[j]? = some B[j] := by
  have hl : j < (bl B).length := by rw [bl_len]; exact h
  rw [List.getElem?_eq_getElem hl]
  rfl

theorem pow16 (k : Nat) (h : k ≤ 16) : 1 ≤ 2 ^ k ∧ 2 ^ k ≤ 65536 := pow_bd k h

end Go.Proofs.YtgkiknfpcbcnnabGreat

namespace Go.Proofs.YtgkiknfpcbcnnabGreat
open Go.RowKit
set_option maxRecDepth 20000

def wOf (k : Int) : Nat := if k = 3 ∨ k = 5 then 8 else 16
/-- The blocks of a part's field. -/
def blkP (p : Pt) : List (List UInt8) := if hasP p.ty then [binL (p.bt.toNat / 2 ^ (16 - p.ln.toNat)) p.ln.toNat ++ List.replicate (16 - p.ln.toNat) 42] else covS (fun v => gH p.ty v p.ts) (wOf p.ty) [] 0
/-- The blocks of a field. -/
def blkS (k : Int) : List Pt → List (List UInt8)
  | [] => [List.replicate (wOf k) 42]
  | p :: r => if p.ty = k then blkP p else blkS k r

def st16 : ByteArray := ⟨#[42, 42, 42, 42, 42, 42, 42, 42, 42, 42, 42, 42, 42, 42, 42, 42]⟩
theorem bl_st16 : bl st16 = List.replicate 16 42 := rfl

theorem st16_behind (l : Nat) (h : l ≤ 16) : bl (st16.extract l 16) = List.replicate (16 - l) 42 ∧ (st16.extract l 16).size = 16 - l := by
  have e : bl (st16.extract l 16) = ((bl st16).take 16).drop l := by
    unfold bl
    rw [ByteArray.data_extract]
    simp [Array.toList_extract, List.extract_eq_take_drop]
    rw [List.drop_take]
  constructor
  · rw [e, bl_st16, List.take_of_length_le (by simp), List.drop_replicate]
  · rw [ByteArray.size_extract]
    show min 16 16 - l = 16 - l
    omega

theorem pfxSz (v l : Nat) (h : l ≤ 16) : ((bin v 16).extract 0 l).size = l := by
  have := bin_size v 16
  rw [ByteArray.size_extract]
  omega

/-- What blocks answers. -/
def BlkPost (k : Int) (ps : List Pt) (B : Nat) (e : Ending) (w' : World) : Prop :=
  ∃ (v : Value) (L : List ByteArray), e = .returned v ∧ StrRow w' B v L ∧ L.map bl = blkS k ps

theorem BlkPost.cov {k : Int} {ps : List Pt} {B B' : Nat} {e : Ending} {w' : World} {p : Pt} (h : CovPost (fun v => gH p.ty v p.ts) (wOf k) (bl ⟨#[]⟩) B' e w') (hb : B ≤ B') (hk : p.ty = k) (hT : hasP p.ty = false) (hs : Hid (blkS k ps = blkP p)) : BlkPost k ps B e w' := by
  obtain ⟨v, L, h1, h2, h3⟩ := h
  refine ⟨v, L, h1, h2.base hb, ?_⟩
  rw [h3, hs.out]
  unfold blkP
  rw [hT, hk]
  rfl

end Go.Proofs.YtgkiknfpcbcnnabGreat
