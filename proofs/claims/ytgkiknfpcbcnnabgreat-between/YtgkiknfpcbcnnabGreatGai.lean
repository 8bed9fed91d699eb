import Derived.Test.YtgkiknfpcbcnnabGreatGah
import Derived.Test.YtgkiknfpcbcnnabGreatGaa
import Derived.Test.YtgkiknfpcbcnnabGreatTba
import Derived.Test.YtgkiknfpcbcnnabGreatGs
import Derived.Handy
namespace Go.Proofs.YtgkiknfpcbcnnabGreat
open Go.RowKit
set_option maxRecDepth 20000

/-- What a call that changes a gate leaves: its error; no writes with an error; what was announced, in whatever order; blocks of its own, and new ones. -/
def XPost (Inv : World → Nat → Gs → (Nat → Prop) → Prop) (F : Nat → Prop) (w : World) (x : Nat) (er : Int) (st : Gs) (e : Ending) (w' : World) : Prop :=
  ∃ a n c F' st', e = .returned (.tuple #[.slice a n c, .int .i64 er]) ∧ (er ≠ 0 → n = 0) ∧ Sim st' st ∧ Inv w' x st' F' ∧ (∀ b, F' b → F b ∨ w.heap.size ≤ b) ∧ Off F w w'

/-- What is asked of package gate: a reading of its gate in memory (its struct in block x, all of it in the blocks F), and the contracts of New and Status; the contracts of the calls that change it. (Its instance is what hangs on the landed code.) -/
structure XBase where
  Inv : World → Nat → Gs → (Nat → Prop) → Prop
  same : ∀ {w w' : World} {x : Nat} {st : Gs} {F : Nat → Prop}, Inv w x st F → w.heap.size ≤ w'.heap.size → (∀ b, F b → w'.heap[b]? = w.heap[b]?) → Inv w' x st F
  lt : ∀ {w : World} {x : Nat} {st : Gs} {F : Nat → Prop}, Inv w x st F → ∀ b, F b → b < w.heap.size
  ok : ∀ {w : World} {x : Nat} {st : Gs} {F : Nat → Prop}, Inv w x st F → GsOK st
  new : ∀ (c : Cf) (w : World), Calls Tryz.prog 43 #[cfV c] w fun e w' => (if cfOK c then ∃ x F, e = .returned (.tuple #[ptrV x, .int .i64 0]) ∧ Inv w' x ⟨c, [], []⟩ F ∧ ∀ b, F b → w.heap.size ≤ b else e = .returned (.tuple #[.pointer none, .int .i64 5])) ∧ Below w.heap.size w w'
  status : ∀ {w : World} {x : Nat} {st : Gs} {F : Nat → Prop}, Inv w x st F → Calls Tryz.prog 10 #[ptrV x] w fun e w' => ∃ v F', e = .returned v ∧ TRow w' w.heap.size v (stats st) ∧ Inv w' x st F' ∧ (∀ b, F' b → F b ∨ w.heap.size ≤ b) ∧ (∀ b, F' b → v.ownBlock ≠ some b) ∧ Off F w w'
/-- What a call that changes a gate answers besides: the writes, in a row of their own. -/
def XPostW (Inv : World → Nat → Gs → (Nat → Prop) → Prop) (F : Nat → Prop) (w : World) (x : Nat) (s0 : Gs) (er : Int) (st : Gs) (e : Ending) (w' : World) : Prop :=
  ∃ a c ws F' st', e = .returned (.tuple #[.slice a ws.length c, .int .i64 er]) ∧ WRow w' w.heap.size (.slice a ws.length c) ws ∧ (er ≠ 0 → ws = []) ∧ (er = 0 → WrOK (tabS s0) (tabS st) ws) ∧ Sim st' st ∧ Inv w' x st' F' ∧ (∀ b, F' b → F b ∨ w.heap.size ≤ b) ∧ (∀ b, F' b → (Value.slice a ws.length c).ownBlock ≠ some b) ∧ Off F w w'
theorem XPostW.weak {Inv : World → Nat → Gs → (Nat → Prop) → Prop} {F : Nat → Prop} {w : World} {x : Nat} {s0 : Gs} {er : Int} {st : Gs} {e : Ending} {w' : World} (h : XPostW Inv F w x s0 er st e w') : XPost Inv F w x er st e w' := by
  obtain ⟨a, c, ws, F', st', h1, _, h3, _, h5, h6, h7, _, h9⟩ := h
  exact ⟨a, ws.length, c, F', st', h1, fun hn => by rw [h3 hn]; rfl, h5, h6, h7, h9⟩
/-- What Lookup tells (P14). -/
def lkE (h : Hd) : Int := if hdOK h then 0 else 3
def firA (T : List En) (b : List UInt8) : Int := ((T.find? fun e => fitL (bl e.bt) b).map En.ac).getD 0
def lkA (T : List En) (h : Hd) : Int := if hdOK h then firA T (hbL h) else 0
structure XGate extends XBase where
  table : ∀ {w : World} {x : Nat} {st : Gs} {F : Nat → Prop}, Inv w x st F → Calls Tryz.prog 15 #[ptrV x] w fun e w' => ∃ v F', e = .returned v ∧ ERow w' w.heap.size v (tabS st) ∧ Inv w' x st F' ∧ (∀ b, F' b → F b ∨ w.heap.size ≤ b) ∧ (∀ b, F' b → v.ownBlock ≠ some b) ∧ Off F w w'
  lookup : ∀ {w : World} {x : Nat} {st : Gs} {F : Nat → Prop} (h : Hd), Inv w x st F → Calls Tryz.prog 18 #[ptrV x, .agg #[.int .i64 h.ds, .int .i64 h.sr, .int .i64 h.pr, .int .i64 h.po, .int .i64 h.fl, .bool h.la]] w fun e w' => ∃ F', e = .returned (.tuple #[.int .i64 (lkA (tabS st) h), .int .i64 (lkE h)]) ∧ Inv w' x st F' ∧ (∀ b, F' b → F b ∨ w.heap.size ≤ b) ∧ Off F w w'
  announceW : ∀ {w : World} {x : Nat} {st : Gs} {F : Nat → Prop} (pe bt ln pa : Int), Inv w x st F → i64 pe → i64 bt → i64 ln → i64 pa → Calls Tryz.prog 47 #[ptrV x, .int .i64 pe, .agg #[.int .i64 bt, .int .i64 ln], .int .i64 pa] w fun e w' => XPostW Inv F w x st (anE st pe bt ln pa) (anS st pe bt ln pa) e w'
  withdrawW : ∀ {w : World} {x : Nat} {st : Gs} {F : Nat → Prop} (pe bt ln : Int), Inv w x st F → i64 pe → i64 bt → i64 ln → Calls Tryz.prog 79 #[ptrV x, .int .i64 pe, .agg #[.int .i64 bt, .int .i64 ln]] w fun e w' => XPostW Inv F w x st (wiE st pe bt ln) (wiS st pe bt ln) e w'
  addW : ∀ {w : World} {x : Nat} {st : Gs} {F : Nat → Prop} (pe : Int) (tx : ByteArray) (ac : Int), Inv w x st F → i64 pe → i64 ac → tx.size ≤ 140737488351232 → Calls Tryz.prog 46 #[ptrV x, .int .i64 pe, .string tx, .int .i64 ac] w fun e w' => XPostW Inv F w x st (adE st pe tx ac) (adS st pe tx ac) e w'
  removeW : ∀ {w : World} {x : Nat} {st : Gs} {F : Nat → Prop} (pe : Int) (tx : ByteArray), Inv w x st F → i64 pe → tx.size ≤ 140737488351232 → Calls Tryz.prog 82 #[ptrV x, .int .i64 pe, .string tx] w fun e w' => XPostW Inv F w x st (reE st pe tx) (reS st pe tx) e w'
  resetW : ∀ {w : World} {x : Nat} {st : Gs} {F : Nat → Prop} (pe : Int), Inv w x st F → i64 pe → Calls Tryz.prog 44 #[ptrV x, .int .i64 pe] w fun e w' => XPostW Inv F w x st (rsE pe) (rsS st pe) e w'
theorem XGate.announce (X : XGate) {w : World} {x : Nat} {st : Gs} {F : Nat → Prop} (pe bt ln pa : Int) (hX : X.Inv w x st F) (h0 : i64 pe) (h1 : i64 bt) (h2 : i64 ln) (h3 : i64 pa) : Calls Tryz.prog 47 #[ptrV x, .int .i64 pe, .agg #[.int .i64 bt, .int .i64 ln], .int .i64 pa] w fun e w' => XPost X.Inv F w x (anE st pe bt ln pa) (anS st pe bt ln pa) e w' :=
  (X.announceW pe bt ln pa hX h0 h1 h2 h3).mono fun _ _ h => h.weak
theorem XGate.withdraw (X : XGate) {w : World} {x : Nat} {st : Gs} {F : Nat → Prop} (pe bt ln : Int) (hX : X.Inv w x st F) (h0 : i64 pe) (h1 : i64 bt) (h2 : i64 ln) : Calls Tryz.prog 79 #[ptrV x, .int .i64 pe, .agg #[.int .i64 bt, .int .i64 ln]] w fun e w' => XPost X.Inv F w x (wiE st pe bt ln) (wiS st pe bt ln) e w' :=
  (X.withdrawW pe bt ln hX h0 h1 h2).mono fun _ _ h => h.weak
theorem XGate.add (X : XGate) {w : World} {x : Nat} {st : Gs} {F : Nat → Prop} (pe : Int) (tx : ByteArray) (ac : Int) (hX : X.Inv w x st F) (h0 : i64 pe) (h1 : i64 ac) (h2 : tx.size ≤ 140737488351232) : Calls Tryz.prog 46 #[ptrV x, .int .i64 pe, .string tx, .int .i64 ac] w fun e w' => XPost X.Inv F w x (adE st pe tx ac) (adS st pe tx ac) e w' :=
  (X.addW pe tx ac hX h0 h1 h2).mono fun _ _ h => h.weak
theorem XGate.remove (X : XGate) {w : World} {x : Nat} {st : Gs} {F : Nat → Prop} (pe : Int) (tx : ByteArray) (hX : X.Inv w x st F) (h0 : i64 pe) (h1 : tx.size ≤ 140737488351232) : Calls Tryz.prog 82 #[ptrV x, .int .i64 pe, .string tx] w fun e w' => XPost X.Inv F w x (reE st pe tx) (reS st pe tx) e w' :=
  (X.removeW pe tx hX h0 h1).mono fun _ _ h => h.weak
theorem XGate.reset (X : XGate) {w : World} {x : Nat} {st : Gs} {F : Nat → Prop} (pe : Int) (hX : X.Inv w x st F) (h0 : i64 pe) : Calls Tryz.prog 44 #[ptrV x, .int .i64 pe] w fun e w' => XPost X.Inv F w x (rsE pe) (rsS st pe) e w' :=
  (X.resetW pe hX h0).mono fun _ _ h => h.weak
end Go.Proofs.YtgkiknfpcbcnnabGreat

namespace Go.Proofs.YtgkiknfpcbcnnabGreat
open Go.RowKit
set_option maxRecDepth 20000

/-- Of the c lines of a list in block G the first m bear the mark of the list of number k. -/
def MkT (w : World) (G c k m : Nat) : Prop := ∃ cur : Array Value, w.heap[G]? = some (.cells cur 40 (0, 0)) ∧ cur.size = c * 4 ∧ ∀ p, p < m → w.rangeAt G (p * 4) (ttC (bdS k))
theorem MkT.same {w w' : World} {G c k m : Nat} (h : MkT w G c k m) (hb : w'.heap[G]? = w.heap[G]?) : MkT w' G c k m := by
  obtain ⟨cur, h1, h2, h3⟩ := h
  exact ⟨cur, by rw [hb]; exact h1, h2, fun p hp j u hu => (World.cell?_of_block (w := w) (a := ⟨G, p * 4 + j, none⟩) hb).trans (h3 p hp j u hu)⟩
theorem there4 {w : World} {G c k m p : Nat} (h : MkT w G c k m) (hp : p < c) : w.there G (p * 4) 4 := by
  obtain ⟨cur, h1, h2, _⟩ := h
  intro j hj
  have hl : p * 4 + j < cur.size := by rw [h2]; omega
  exact ⟨by rw [cell_of_row w G _ cur _ _ h1, Array.getElem?_eq_getElem hl]; rfl, frozen_of_row w _ _ cur _ h1⟩
/-- One line more. -/
theorem MkT.step {w : World} {G c k m : Nat} (h : MkT w G c k m) (hm : m < c) : MkT (w.setCells G (m * 4) (ttC (bdS k))) G c k (m + 1) := by
  have ht := there4 h hm
  obtain ⟨cur, h1, h2, h3⟩ := h
  obtain ⟨cur', e1, e2⟩ := setCells_shape (ttC (bdS k)) (m * 4) h1
  refine ⟨cur', e1, e2.trans h2, fun p hp => ?_⟩
  by_cases he : p = m
  · subst he
    exact World.rangeAt_setCells_same w _ _ _ ht
  · refine World.rangeAt_setCells_apart (h3 p (by omega)) _ _ _ (.inr (.inl ?_))
    show p * 4 + 4 ≤ m * 4
    omega
theorem MkT.start {w : World} {B G n c k : Nat} {L : List (Rl × Int)} (h : TRow w B (.slice (some ⟨G, 0, none⟩) n c) L) : MkT w G c k 0 ∧ c ≤ 9223372036854775807 ∧ n ≤ c := by
  rcases h.2 with ⟨he, _⟩ | ⟨g, c', cur, hv, _, hh, hnc, hml, hcs, _⟩
  · simp at he
  · simp only [Value.slice.injEq, Option.some.injEq, Addr.mk.injEq, and_true] at hv
    obtain ⟨rfl, rfl, rfl⟩ := hv
    exact ⟨⟨cur, hh, hcs, fun p hp => by omega⟩, by unfold maxLen at hml; omega, hnc⟩
end Go.Proofs.YtgkiknfpcbcnnabGreat

namespace Go.Proofs.YtgkiknfpcbcnnabGreat
open Go.RowKit
set_option maxRecDepth 20000

theorem Off.cell {F : Nat → Prop} {w w' : World} (h : Off F w w') {a : Addr} (ha : a.block < w.heap.size) (hn : ¬ F a.block) : w'.cell? a = w.cell? a := World.cell?_of_block (h.block _ ha hn)
theorem Off.frozen {F : Nat → Prop} {w w' : World} (h : Off F w w') {a : Addr} (ha : a.block < w.heap.size) (hn : ¬ F a.block) : w'.frozen? a = w.frozen? a := World.frozen?_of_block (h.block _ ha hn)
theorem Off.setCells {F : Nat → Prop} {g : Nat} : ∀ (vs : List Value) (o : Nat) {w w' : World}, Off F w w' → (F g ∨ w.heap.size ≤ g) → Off F w (w'.setCells g o vs) := by
  intro vs
  induction vs with
  | nil => intro o w w' h _; exact h
  | cons v r ih => intro o w w' h hg; exact ih (o + 1) (h.setCell (a := ⟨g, o, none⟩) hg v) hg
theorem infoStats : (Tryz.prog.info? 28).map (fun i => (i.zero, i.size, i.bytes)) = some (some (.slice none 0 0), 1, 24) := by kernel_rfl
theorem there_cell {w : World} {G o n : Nat} (h : w.there G o n) (j : Nat) (hj : j < n) : ∃ u, w.cell? ⟨G, o + j, none⟩ = some u := Option.isSome_iff_exists.1 (h j hj).1

end Go.Proofs.YtgkiknfpcbcnnabGreat

namespace Go.Proofs.YtgkiknfpcbcnnabGreat
open Go.RowKit
set_option maxRecDepth 20000

end Go.Proofs.YtgkiknfpcbcnnabGreat

namespace Go.Proofs.YtgkiknfpcbcnnabGreat
open Go.RowKit
set_option maxRecDepth 20000

/-- A list that came out, as its owner, the list of number k, wrote it. -/
def SsAt (w : World) (v : Value) (k : Nat) : Prop := v = .slice none 0 0 ∨ ∃ G c, v = .slice (some ⟨G, 0, none⟩) c c ∧ c ≤ 9223372036854775807 ∧ MkT w G c k c
theorem SsAt.below {w w' : World} {v : Value} {k : Nat} (h : SsAt w v k) (hb : Below w.heap.size w w') : SsAt w' v k := by
  rcases h with h | ⟨G, c, h1, h2, h3⟩
  · exact .inl h
  · have hG : G < w.heap.size := by obtain ⟨cur, e, _⟩ := h3; exact lt_of_block e
    exact .inr ⟨G, c, h1, h2, h3.same (hb.block G hG)⟩
theorem row_one' {w : World} {B : Nat} {e : TypeId} {ao : Option Addr} {n c : Nat} {xs : List Value} (h : w.ownsRow B e 1 (.slice ao n c) n xs) (hl : 0 < n) : ∃ g, ao = some ⟨g, 0, none⟩ ∧ g < w.heap.size ∧ ∀ i (hi : i < xs.length), w.cell? ⟨g, i, none⟩ = some xs[i] := by
  rcases h.2 with ⟨_, h0⟩ | ⟨g, c', cur, hv, hg, hh, _⟩
  · omega
  · simp only [Value.slice.injEq] at hv
    refine ⟨g, hv.1, lt_of_block hh, fun i hi => ?_⟩
    have c1 := h.cells (g := g) (by rw [hv.1]; rfl) i xs[i] (List.getElem?_eq_getElem hi)
    rw [add0, Nat.zero_add] at c1
    exact c1

end Go.Proofs.YtgkiknfpcbcnnabGreat

namespace Go.Proofs.YtgkiknfpcbcnnabGreat
open Go.RowKit
set_option maxRecDepth 20000

end Go.Proofs.YtgkiknfpcbcnnabGreat
