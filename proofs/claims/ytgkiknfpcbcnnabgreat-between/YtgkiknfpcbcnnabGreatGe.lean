import Derived.Test.YtgkiknfpcbcnnabGreatGd
namespace Go.Proofs.YtgkiknfpcbcnnabGreat
open Go.RowKit
set_option maxRecDepth 20000

end Go.Proofs.YtgkiknfpcbcnnabGreat

namespace Go.Proofs.YtgkiknfpcbcnnabGreat
open Go.RowKit
set_option maxRecDepth 20000

def tOK (k : Int) (t : Tm) (f : Bool) : Bool := !(t.an && f) && isT k t

end Go.Proofs.YtgkiknfpcbcnnabGreat

set_option linter.unusedSimpArgs false
namespace Go.Proofs.YtgkiknfpcbcnnabGreat
open Go.RowKit
set_option maxRecDepth 20000

/-- A row of bytes of the call's own; what lay in W0 lies there still. -/
structure BW (W0 w : World) (v : Value) (X : ByteArray) : Prop where
  gr : Below W0.heap.size W0 w
  own : w.ownsRow W0.heap.size 5 1 v X.size (bv X)

theorem BW.app {W0 w w1 : World} {v v1 : Value} {X Y : ByteArray} {o : Obj} {news : List Value} {m : Nat} (h : BW W0 w v X) (hg : (w.alloc o).grownBy w1 v.ownBlock) (ho : w1.ownsRow W0.heap.size 5 1 v1 (X.size + m) (bv X ++ news)) (hn : news = bv Y) : BW W0 w1 v1 (X ++ Y) := by
  subst hn
  refine ⟨below_byte h.gr h.gr.size h.own hg, ?_⟩
  have hm : X.size + m = (X ++ Y).size := by have := ho.1; rw [List.length_append, bv_len, bv_len] at this; rw [ByteArray.size_append]; omega
  rw [bv_app, ← hm]; exact ho

theorem BW.alloc {W0 w : World} {v : Value} {X : ByteArray} (h : BW W0 w v X) (o : Obj) : BW W0 (w.alloc o) v X := ⟨h.gr.alloc h.gr.size o, h.own.alloc o⟩

theorem bv_two (a b : Int) (ha : 0 ≤ a) (ha1 : a ≤ 255) (hb : 0 ≤ b) (hb1 : b ≤ 255) : bv (ch a ++ ch b) = [.int .u8 a, .int .u8 b] := by
  rw [bv_app, bv_ch a ha ha1, bv_ch b hb hb1]; rfl
theorem bv_three (a b c : Int) (ha : 0 ≤ a) (ha1 : a ≤ 255) (hb : 0 ≤ b) (hb1 : b ≤ 255) (hc : 0 ≤ c) (hc1 : c ≤ 255) : bv (ch a ++ (ch b ++ ch c)) = [.int .u8 a, .int .u8 b, .int .u8 c] := by
  rw [bv_app, bv_two b c hb hb1 hc hc1, bv_ch a ha ha1]; rfl

theorem cell_two_new' (w : World) (k : Nat) (a b : Value) (t : TypeId) (hk : w.heap.size = k) : ∀ j u, [a, b][j]? = some u → (w.alloc (.cells #[a, b] t)).cell? ((⟨k, 0, none⟩ : Addr).add j) = some u := by
  subst hk
  intro j u hj
  match j, hj with
  | 0, hj => simp at hj; subst hj; simp [Addr.add]
  | 1, hj => simp at hj; subst hj; simp [Addr.add]
  | n + 2, hj => simp at hj
theorem cell_three_new' (w : World) (k : Nat) (a b c : Value) (t : TypeId) (hk : w.heap.size = k) : ∀ j u, [a, b, c][j]? = some u → (w.alloc (.cells #[a, b, c] t)).cell? ((⟨k, 0, none⟩ : Addr).add j) = some u := by
  subst hk
  intro j u hj
  match j, hj with
  | 0, hj => simp at hj; subst hj; simp [Addr.add]
  | 1, hj => simp at hj; subst hj; simp [Addr.add]
  | 2, hj => simp at hj; subst hj; simp [Addr.add]
  | n + 3, hj => simp at hj
theorem int_two (k : IntKind) (n m : Int) : ∀ u ∈ [Value.int k n, Value.int k m], u.oneCell' = true := by simp [Value.oneCell']
theorem int_three (k : IntKind) (n m q : Int) : ∀ u ∈ [Value.int k n, Value.int k m, Value.int k q], u.oneCell' = true := by simp [Value.oneCell']

end Go.Proofs.YtgkiknfpcbcnnabGreat
