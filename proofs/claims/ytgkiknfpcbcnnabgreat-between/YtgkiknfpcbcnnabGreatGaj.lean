import Derived.Test.YtgkiknfpcbcnnabGreatGai
namespace Go.Proofs.YtgkiknfpcbcnnabGreat
open Go.RowKit
set_option maxRecDepth 20000

/-- One gate of the law: the blocks of the pair, of the gate and of the document's; what each was told; the pair's table. -/
structure Pr where
  pb : Nat
  x : Nat
  y : Nat
  sx : Gs
  sy : Gs
  tv : Value

/-- The lists that came out, and the row that keeps them. -/
structure LsOK (w : World) (lab : Nat → Nat) (so : Option Addr) (sc : Nat) (vals : List Value) : Prop where
  row : w.ownsRow 0 28 1 (.slice so vals.length sc) vals.length vals
  rl : ∀ b, (Value.slice so vals.length sc).ownBlock = some b → lab b = 2
  at_ : ∀ k (h : k < vals.length), SsAt w vals[k] k ∧ ∀ b, vals[k].ownBlock = some b → lab b = 3 + 5 * k
theorem SsAt.same {w w' : World} {v : Value} {k : Nat} (h : SsAt w v k) (hb : ∀ b, v.ownBlock = some b → w'.heap[b]? = w.heap[b]?) : SsAt w' v k := by
  rcases h with h | ⟨G, c, h1, h2, h3⟩
  · exact .inl h
  · exact .inr ⟨G, c, h1, h2, h3.same (hb G (by rw [h1]; rfl))⟩
theorem SsAt.lt {w : World} {v : Value} {k : Nat} (h : SsAt w v k) : ∀ b, v.ownBlock = some b → b < w.heap.size := by
  intro b hb
  rcases h with h | ⟨G, c, h1, h2, h3⟩
  · rw [h] at hb; simp [Value.ownBlock] at hb
  · rw [h1] at hb
    have : G = b := by simpa [Value.ownBlock] using hb
    subst this
    obtain ⟨cur, e, _⟩ := h3; exact lt_of_block e
theorem LsOK.same {w w' : World} {lab lab' : Nat → Nat} {so : Option Addr} {sc : Nat} {vals : List Value} (h : LsOK w lab so sc vals) (hl : ∀ b, b < w.heap.size → lab' b = lab b) (hs : ∀ b, b < w.heap.size → (lab b = 2 ∨ ∃ k, k < vals.length ∧ lab b = 3 + 5 * k) → w'.heap[b]? = w.heap[b]?) : LsOK w' lab' so sc vals := by
  refine ⟨ownsRow_same h.row (fun b hb => hs b (World.ownsRow.lt h.row b hb).2 (.inl (h.rl b hb))), fun b hb => (hl b (World.ownsRow.lt h.row b hb).2).trans (h.rl b hb), fun k hk => ?_⟩
  obtain ⟨h1, h2⟩ := h.at_ k hk
  exact ⟨h1.same (fun b hb => hs b (h1.lt b hb) (.inr ⟨k, hk, h2 b hb⟩)), fun b hb => (hl b (h1.lt b hb)).trans (h2 b hb)⟩

end Go.Proofs.YtgkiknfpcbcnnabGreat

namespace Go.Proofs.YtgkiknfpcbcnnabGreat
open Go.RowKit
set_option maxRecDepth 20000

theorem TRow.same {w w' : World} {B : Nat} {v : Value} {L : List (Rl × Int)} (h : TRow w B v L) (hs : ∀ b, v.ownBlock = some b → w'.heap[b]? = w.heap[b]?) : TRow w' B v L := ownsRow_same h hs

end Go.Proofs.YtgkiknfpcbcnnabGreat

namespace Go.Proofs.YtgkiknfpcbcnnabGreat
open Go.RowKit
set_option maxRecDepth 20000

theorem heap_at_new (w : World) (o : Obj) (k : Nat) (hk : w.heap.size = k) : (w.alloc o).heap[k]? = some o := by
  subst hk; exact heap_alloc_new w o
end Go.Proofs.YtgkiknfpcbcnnabGreat

namespace Go.Proofs.YtgkiknfpcbcnnabGreat
open Go.RowKit
set_option maxRecDepth 20000

theorem Off.free {F : Nat → Prop} {w w' : World} {B : Nat} (h : Off F w w') (hB : B ≤ w.heap.size) (hF : ∀ b, b < B → ¬ F b) : Below B w w' :=
  ⟨h.os, h.tape, h.output, h.size, fun k hk => h.block k (by omega) (hF k hk)⟩
/-- One step more. -/
theorem Off.lab {w w1 w2 : World} {lab lab1 : Nat → Nat} {G : Nat → Prop} (h : Off (fun b => lab b ≠ 7) w w1) (hl : ∀ b, b < w.heap.size → lab1 b = lab b) (k : Off G w1 w2) (hG : ∀ b, G b → lab1 b ≠ 7) : Off (fun b => lab b ≠ 7) w w2 :=
  h.trans k (fun b hb => by
    by_cases hw : b < w.heap.size
    · exact .inl (by rw [← hl b hw]; exact hG b hb)
    · exact .inr (by omega))
theorem mul24 {k : Nat} (h : k + 1 ≤ 5864062014805) : (k + 1) * 24 ≤ 140737488355328 := Nat.le_trans (Nat.mul_le_mul_right 24 h) (by decide)
theorem asked_bd {a v p i : Nat} (h : v + p + 1 ≤ 5864062014805) (e : a = v + i) (hi : i < p) : (a + 1) * 24 ≤ 140737488355328 := mul24 (by omega)
theorem asked_bd2 {a v p i : Nat} (h : v + p + 1 ≤ 5864062014805) (e : a = v + i) (hi : i ≤ p) : a ≤ 140737488355328 := by omega
theorem asked_bd3 {v p : Nat} (h : v + p + 1 ≤ 5864062014805) : p ≤ 140737488355328 := by omega

end Go.Proofs.YtgkiknfpcbcnnabGreat
