import Derived.Test.YtgkiknfpcbcnnaaGreatGah
import Derived.Test.YtgkiknfpcbcnnaaGreatGaa
import Derived.Test.YtgkiknfpcbcnnaaGreatTba
import Derived.Test.YtgkiknfpcbcnnaaGreatGs
import Derived.Handy
namespace Go.Proofs.YtgkiknfpcbcnnaaGreat
open Go.RowKit
set_option maxRecDepth 20000
structure XBase where
  Inv : World → Nat → Gs → (Nat → Prop) → Prop
  same : ∀ {w w' : World} {x : Nat} {st : Gs} {F : Nat → Prop}, Inv w x st F → w.heap.size ≤ w'.heap.size → (∀ b, F b → w'.heap[b]? = w.heap[b]?) → Inv w' x st F
  lt : ∀ {w : World} {x : Nat} {st : Gs} {F : Nat → Prop}, Inv w x st F → ∀ b, F b → b < w.heap.size
  ok : ∀ {w : World} {x : Nat} {st : Gs} {F : Nat → Prop}, Inv w x st F → GsOK st
  new : ∀ (c : Cf) (w : World), Calls Tryz.prog 11 #[cfV c] w fun e w' => (if cfOK c then ∃ x F, e = .returned (.tuple #[ptrV x, .int .i64 0]) ∧ Inv w' x ⟨c, [], []⟩ F ∧ ∀ b, F b → w.heap.size ≤ b else e = .returned (.tuple #[.pointer none, .int .i64 5])) ∧ Below w.heap.size w w'
  status : ∀ {w : World} {x : Nat} {st : Gs} {F : Nat → Prop}, Inv w x st F → Calls Tryz.prog 34 #[ptrV x] w fun e w' => ∃ v F', e = .returned v ∧ TRow w' w.heap.size v (stats st) ∧ Inv w' x st F' ∧ (∀ b, F' b → F b ∨ w.heap.size ≤ b) ∧ (∀ b, F' b → v.ownBlock ≠ some b) ∧ Off F w w'
def XPostW (Inv : World → Nat → Gs → (Nat → Prop) → Prop) (F : Nat → Prop) (w : World) (x : Nat) (s0 : Gs) (er : Int) (st : Gs) (e : Ending) (w' : World) : Prop :=
  ∃ a c ws F' st', e = .returned (.tuple #[.slice a ws.length c, .int .i64 er]) ∧ WRow w' w.heap.size (.slice a ws.length c) ws ∧ (er ≠ 0 → ws = []) ∧ (er = 0 → WrOK (tabS s0) (tabS st) ws) ∧ Sim st' st ∧ Inv w' x st' F' ∧ (∀ b, F' b → F b ∨ w.heap.size ≤ b) ∧ (∀ b, F' b → (Value.slice a ws.length c).ownBlock ≠ some b) ∧ Off F w w'
def lkE (h : Hd) : Int := if hdOK h then 0 else 3
def firA (T : List En) (b : List UInt8) : Int := ((T.find? fun e => fitL (bl e.bt) b).map En.ac).getD 0
def lkA (T : List En) (h : Hd) : Int := if hdOK h then firA T (hbL h) else 0
structure XGate extends XBase where
  table : ∀ {w : World} {x : Nat} {st : Gs} {F : Nat → Prop}, Inv w x st F → Calls Tryz.prog 38 #[ptrV x] w fun e w' => ∃ v F', e = .returned v ∧ ERow w' w.heap.size v (tabS st) ∧ Inv w' x st F' ∧ (∀ b, F' b → F b ∨ w.heap.size ≤ b) ∧ (∀ b, F' b → v.ownBlock ≠ some b) ∧ Off F w w'
  lookup : ∀ {w : World} {x : Nat} {st : Gs} {F : Nat → Prop} (h : Hd), Inv w x st F → Calls Tryz.prog 61 #[ptrV x, .agg #[.int .i64 h.ds, .int .i64 h.sr, .int .i64 h.pr, .int .i64 h.po, .int .i64 h.fl, .bool h.la]] w fun e w' => ∃ F', e = .returned (.tuple #[.int .i64 (lkA (tabS st) h), .int .i64 (lkE h)]) ∧ Inv w' x st F' ∧ (∀ b, F' b → F b ∨ w.heap.size ≤ b) ∧ Off F w w'
  announceW : ∀ {w : World} {x : Nat} {st : Gs} {F : Nat → Prop} (pe bt ln pa : Int), Inv w x st F → i64 pe → i64 bt → i64 ln → i64 pa → Calls Tryz.prog 22 #[ptrV x, .int .i64 pe, .agg #[.int .i64 bt, .int .i64 ln], .int .i64 pa] w fun e w' => XPostW Inv F w x st (anE st pe bt ln pa) (anS st pe bt ln pa) e w'
  withdrawW : ∀ {w : World} {x : Nat} {st : Gs} {F : Nat → Prop} (pe bt ln : Int), Inv w x st F → i64 pe → i64 bt → i64 ln → Calls Tryz.prog 25 #[ptrV x, .int .i64 pe, .agg #[.int .i64 bt, .int .i64 ln]] w fun e w' => XPostW Inv F w x st (wiE st pe bt ln) (wiS st pe bt ln) e w'
  addW : ∀ {w : World} {x : Nat} {st : Gs} {F : Nat → Prop} (pe : Int) (tx : ByteArray) (ac : Int), Inv w x st F → i64 pe → i64 ac → tx.size ≤ 140737488351232 → Calls Tryz.prog 27 #[ptrV x, .int .i64 pe, .string tx, .int .i64 ac] w fun e w' => XPostW Inv F w x st (adE st pe tx ac) (adS st pe tx ac) e w'
  removeW : ∀ {w : World} {x : Nat} {st : Gs} {F : Nat → Prop} (pe : Int) (tx : ByteArray), Inv w x st F → i64 pe → tx.size ≤ 140737488351232 → Calls Tryz.prog 29 #[ptrV x, .int .i64 pe, .string tx] w fun e w' => XPostW Inv F w x st (reE st pe tx) (reS st pe tx) e w'
  resetW : ∀ {w : World} {x : Nat} {st : Gs} {F : Nat → Prop} (pe : Int), Inv w x st F → i64 pe → Calls Tryz.prog 31 #[ptrV x, .int .i64 pe] w fun e w' => XPostW Inv F w x st (rsE pe) (rsS st pe) e w'
end Go.Proofs.YtgkiknfpcbcnnaaGreat
namespace Go.Proofs.YtgkiknfpcbcnnaaGreat
open Go.RowKit
set_option maxRecDepth 20000
def MkT (w : World) (G c k m : Nat) : Prop := ∃ cur : Array Value, w.heap[G]? = some (.cells cur 59 (0, 0)) ∧ cur.size = c * 4 ∧ ∀ p, p < m → w.rangeAt G (p * 4) (ttC (bdS k))
theorem MkT.same {w w' : World} {G c k m : Nat} (h : MkT w G c k m) (hb : w'.heap[G]? = w.heap[G]?) : MkT w' G c k m := by
  obtain ⟨cur, h1, h2, h3⟩ := h
  exact ⟨cur, by rw [hb]; exact h1, h2, fun p hp j u hu => (World.cell?_of_block (w := w) (a := ⟨G, p * 4 + j, none⟩) hb).trans (h3 p hp j u hu)⟩
theorem there4 {w : World} {G c k m p : Nat} (h : MkT w G c k m) (hp : p < c) : w.there G (p * 4) 4 := by
  obtain ⟨cur, h1, h2, _⟩ := h
  intro j hj
  have hl : p * 4 + j < cur.size := by rw [h2]; omega
  exact ⟨by rw [cell_of_row w G _ cur _ _ h1, Array.getElem?_eq_getElem hl]; rfl, frozen_of_row w _ _ cur _ h1⟩
theorem MkT.step {w : World} {G c k m : Nat} (h : MkT w G c k m) (hm : m < c) : MkT (w.setCells G (m * 4) (ttC (bdS k))) G c k (m + 1) := by
  have ht := there4 h hm
  obtain ⟨cur, h1, h2, h3⟩ := h
  obtain ⟨cur', e1, e2⟩ := setCells_shape (ttC (bdS k)) (m * 4) h1
  refine ⟨cur', e1, e2.trans h2, fun p hp => ?_⟩
  by_cases he : p = m
  · subst he
    exact World.rangeAt_setCells_same w _ _ _ ht
  · refine World.rangeAt_setCells_apart (h3 p (by omega)) _ _ _ (.inr (.inl ?_))
    show p * 4 + 4 ≤ m * 4
    omega
theorem MkT.start {w : World} {B G n c k : Nat} {L : List (Rl × Int)} (h : TRow w B (.slice (some ⟨G, 0, none⟩) n c) L) : MkT w G c k 0 ∧ c ≤ 9223372036854775807 ∧ n ≤ c := by
  rcases h.2 with ⟨he, _⟩ | ⟨g, c', cur, hv, _, hh, hnc, hml, hcs, _⟩
  · simp at he
  · simp only [Value.slice.injEq, Option.some.injEq, Addr.mk.injEq, and_true] at hv
    obtain ⟨rfl, rfl, rfl⟩ := hv
    exact ⟨⟨cur, hh, hcs, fun p hp => by omega⟩, by unfold maxLen at hml; omega, hnc⟩
end Go.Proofs.YtgkiknfpcbcnnaaGreat
namespace Go.Proofs.YtgkiknfpcbcnnaaGreat
open Go.RowKit
set_option maxRecDepth 20000
theorem Off.cell {F : Nat → Prop} {w w' : World} (h : Off F w w') {a : Addr} (ha : a.block < w.heap.size) (hn : ¬ F a.block) : w'.cell? a = w.cell? a := World.cell?_of_block (h.block _ ha hn)
theorem Off.frozen {F : Nat → Prop} {w w' : World} (h : Off F w w') {a : Addr} (ha : a.block < w.heap.size) (hn : ¬ F a.block) : w'.frozen? a = w.frozen? a := World.frozen?_of_block (h.block _ ha hn)
theorem Off.setCells {F : Nat → Prop} {g : Nat} : ∀ (vs : List Value) (o : Nat) {w w' : World}, Off F w w' → (F g ∨ w.heap.size ≤ g) → Off F w (w'.setCells g o vs) := by
  intro vs
  induction vs with
  | nil => intro o w w' h _; exact h
  | cons v r ih => intro o w w' h hg; exact ih (o + 1) (h.setCell (a := ⟨g, o, none⟩) hg v) hg
theorem infoStats : (Tryz.prog.info? 61).map (fun i => (i.zero, i.size, i.bytes)) = some (some (.slice none 0 0), 1, 24) := by kernel_rfl
theorem there_cell {w : World} {G o n : Nat} (h : w.there G o n) (j : Nat) (hj : j < n) : ∃ u, w.cell? ⟨G, o + j, none⟩ = some u := Option.isSome_iff_exists.1 (h j hj).1
set_option maxHeartbeats 1600000 in
/-- A list that holds something is written full, its spare room too, and kept. -/
theorem keepStatuses_some (wl : Nat) (so : Option Addr) (k sc : Nat) (vals : List Value) (G n c : Nat) (w : World) (cs : Array Value) (hW : w.heap[wl]? = some (.cells cs 31 (0, 0))) (h2 : cs[2]? = some (.slice so k sc)) (hrow : w.ownsRow 0 61 1 (.slice so k sc) k vals) (hl : MkT w G c k 0) (hGl : G ≠ wl) (hc : c ≤ 9223372036854775807) (hnc : n ≤ c) (hk : (k + 1) * 24 ≤ 140737488355328) (hso : ∀ b, (Value.slice so k sc).ownBlock = some b → b ≠ wl ∧ b ≠ G) :
    Calls Tryz.prog 37 #[ptrV wl, .slice (some ⟨G, 0, none⟩) n c] w fun e w' => e = .returned (.tuple #[]) ∧ MkT w' G c k c ∧ ∃ so' sc', w'.heap[wl]? = some (.cells (cs.setIfInBounds 2 (.slice so' (k + 1) sc')) 31 (0, 0)) ∧ w'.ownsRow 0 61 1 (.slice so' (k + 1) sc') (k + 1) (vals ++ [.slice (some ⟨G, 0, none⟩) c c]) ∧ (∀ b, (Value.slice so' (k + 1) sc').ownBlock = some b → (Value.slice so k sc).ownBlock = some b ∨ w.heap.size ≤ b) ∧ Off (fun b => b = wl ∨ b = G ∨ (Value.slice so k sc).ownBlock = some b) w w' := by
  obtain ⟨i0, hi, hz0, hz1, hz2⟩ := info_parts infoStats
  have hwl := lt_of_block hW
  have c2 : w.cell? ⟨wl, 2, none⟩ = some (.slice so k sc) := by rw [cell_of_row w wl 2 cs _ _ hW]; exact h2
  have f2 := frozen_of_row w wl 2 cs _ hW
  have HWW : Hid (w.heap[wl]? = some (.cells cs 31 (0, 0))) := hW
  clear hW h2
  unfold ptrV
  have HL : Hid (MkT w G c k 0) := hl
  clear hl
  go_enter Tryz.func37, Tryz.ntmps37
  go_wp2_with fail
  go_loopw [5] (fun x wr => ∃ i : Nat, x = .int .i64 i ∧ i ≤ c ∧ Hid (MkT wr G c k i) ∧ Off (fun b => b = G) w wr) (fun x _ => c - (intOf x).toNat)
  case atStart => exact ⟨0, rfl, Nat.zero_le _, HL, Off.refl _ _⟩
  case round =>
    obtain ⟨i, rfl, hic, HM, hoff⟩ := hrel
    have hz := hoff.size
    have k2 := (hoff.cell (a := ⟨wl, 2, none⟩) hwl (fun e => hGl e.symm)).trans c2
    by_cases hlt : i < c
    · clear HL
      go_wp2_with fail
      refine (badStatus_any k _ (by omega)).mono ?_
      rintro e w1 ⟨rfl, hb1⟩
      have hGz : G < wr.heap.size := by obtain ⟨cur, h1, _⟩ := HM.out; exact lt_of_block h1
      have HM1 : Hid (MkT w1 G c k i) := HM.out.same (hb1.block G hGz)
      have hth := there4 HM1.out hlt
      obtain ⟨u0, t0⟩ := there_cell hth 0 (by omega)
      obtain ⟨u1, t1⟩ := there_cell hth 1 (by omega)
      obtain ⟨u2, t2⟩ := there_cell hth 2 (by omega)
      obtain ⟨u3, t3⟩ := there_cell hth 3 (by omega)
      have f0 := (hth 0 (by omega)).2
      have f1 := (hth 1 (by omega)).2
      have f2' := (hth 2 (by omega)).2
      have f3 := (hth 3 (by omega)).2
      rw [Nat.add_zero] at t0 f0
      have HN : Hid (MkT (w1.setCells G (i * 4) (ttC (bdS k))) G c k (i + 1)) := HM1.out.step hlt
      have HO : Hid (Off (fun b => b = G) w (w1.setCells G (i * 4) (ttC (bdS k)))) := (hoff.then hb1).setCells _ _ (.inl rfl)
      clear HM HM1 hth
      go_wp2_with fail
      go_roundw
      case rel => exact ⟨i + 1, by go_num, by omega, HN, HO.out⟩
      case measure => simp [intOf]; omega
    · obtain rfl : i = c := by omega
      have f2r := (hoff.frozen (a := ⟨wl, 2, none⟩) hwl (fun e => hGl e.symm)).trans f2
      have hGz : G < wr.heap.size := by obtain ⟨cur, h1, _⟩ := HM.out; exact lt_of_block h1
      have hrowr : wr.ownsRow 0 61 1 (.slice so k sc) k vals := ownsRow_same hrow (fun b hb => hoff.block b (World.ownsRow.lt hrow b hb).2 (hso b hb).2)
      have hWr : wr.heap[wl]? = some (.cells cs 31 (0, 0)) := (hoff.block wl hwl (fun e => hGl e.symm)).trans HWW.out
      have HWr : Hid (wr.heap[wl]? = some (.cells cs 31 (0, 0))) := hWr
      clear hWr HL
      have hwlr : wl < wr.heap.size := by omega
      have nso : some wl ≠ (Value.slice so k sc).ownBlock := fun e => (hso wl e.symm).1 rfl
      have nsoG : some G ≠ (Value.slice so k sc).ownBlock := fun e => (hso G e.symm).2 rfl
      go_wp2_with (at_builtin; refine wpList_append_lies _ rfl _ _ 27 rfl 0 61 i0 _ 1 24 Tryz.underlying27 hi hz0 hz1 hz2 rfl (by decide) (.slice so k sc) k vals rfl (hrowr.alloc _) ⟨wr.heap.size, 0, none⟩ 1 1 [.slice (some ⟨G, 0, none⟩) i i] rfl rfl (World.news_of_block (heap_alloc_new wr _)) (slice_one _ _ _) (by decide) (by unfold maxLen; omega) (by omega) (Nat.zero_le _) _ rfl ?_; intro g' cap' w4 hown hgrow hat hlt4; have hW4 : w4.heap[wl]? = some (.cells cs 31 (0, 0)) := ((hgrow.block wl (by simp; omega) nso).trans (below_alloc wr _ |>.block wl hwlr)).trans HWr.out; have c4 := (cell_of_row w4 wl 2 cs _ _ hW4); have f4 := frozen_of_row w4 wl 2 cs _ hW4; have c4' : w4.cell? ⟨wl, 2, none⟩ = some (.slice so k sc) := (World.cell?_of_block (w := wr) (a := ⟨wl, 2, none⟩) (((hgrow.block wl (by simp; omega) nso).trans (below_alloc wr _ |>.block wl hwlr)))).trans k2; clear c4)
      go_returns
      have hall : ∀ b, b < wr.heap.size → some b ≠ (Value.slice so k sc).ownBlock → w4.heap[b]? = wr.heap[b]? := fun b hb hne => (hgrow.block b (by simp; omega) hne).trans ((below_alloc wr _).block b hb)
      have hg'wl : g' ≠ wl := fun e => by
        subst e
        rcases hat with hat | hat
        · exact nso hat.symm
        · simp at hat; omega
      refine ⟨rfl, HM.out.same ((Below.heap_setCell _ _ _ _ hGl).trans (hall G hGz nsoG)), some ⟨g', 0, none⟩, cap', heap_setCell_same w4 wl 2 cs _ _ hW4, ?_, ?_, ?_⟩
      · exact ownsRow_same hown (fun b hb => Below.heap_setCell _ _ _ _ (fun e => hg'wl (by
          have : g' = b := by simpa [Value.ownBlock] using hb
          rw [this]; exact e)))
      · intro b hb
        have e : g' = b := by simpa [Value.ownBlock] using hb
        subst e
        rcases hat with hat | hat
        · exact .inl hat
        · simp at hat; exact .inr (by omega)
      · refine Off.setCell ?_ (.inl (.inl rfl)) _
        have hsz := hgrow.size
        simp only [World.size_alloc] at hsz
        refine ⟨hgrow.os.trans hoff.os, hgrow.tape.trans hoff.tape, hgrow.output.trans hoff.output, by omega, fun b hb hn => ?_⟩
        rw [hall b (by omega) (fun e => hn (.inr (.inr e.symm)))]
        exact hoff.block b hb (fun e => hn (.inr (.inl e)))
end Go.Proofs.YtgkiknfpcbcnnaaGreat
namespace Go.Proofs.YtgkiknfpcbcnnaaGreat
open Go.RowKit
set_option maxRecDepth 20000
set_option maxHeartbeats 1600000 in
/-- A list that is none is kept. -/
theorem keepStatuses_none (wl : Nat) (so : Option Addr) (k sc : Nat) (vals : List Value) (w : World) (cs : Array Value) (hW : w.heap[wl]? = some (.cells cs 31 (0, 0))) (h2 : cs[2]? = some (.slice so k sc)) (hrow : w.ownsRow 0 61 1 (.slice so k sc) k vals) (hk : (k + 1) * 24 ≤ 140737488355328) (hso : ∀ b, (Value.slice so k sc).ownBlock = some b → b ≠ wl) :
    Calls Tryz.prog 37 #[ptrV wl, .slice none 0 0] w fun e w' => e = .returned (.tuple #[]) ∧ ∃ so' sc', w'.heap[wl]? = some (.cells (cs.setIfInBounds 2 (.slice so' (k + 1) sc')) 31 (0, 0)) ∧ w'.ownsRow 0 61 1 (.slice so' (k + 1) sc') (k + 1) (vals ++ [.slice none 0 0]) ∧ (∀ b, (Value.slice so' (k + 1) sc').ownBlock = some b → (Value.slice so k sc).ownBlock = some b ∨ w.heap.size ≤ b) ∧ Off (fun b => b = wl ∨ (Value.slice so k sc).ownBlock = some b) w w' := by
  obtain ⟨i0, hi, hz0, hz1, hz2⟩ := info_parts infoStats
  have hwl := lt_of_block hW
  have c2 : w.cell? ⟨wl, 2, none⟩ = some (.slice so k sc) := by rw [cell_of_row w wl 2 cs _ _ hW]; exact h2
  have f2 := frozen_of_row w wl 2 cs _ hW
  have HWW : Hid (w.heap[wl]? = some (.cells cs 31 (0, 0))) := hW
  clear hW h2
  unfold ptrV
  go_enter Tryz.func37, Tryz.ntmps37
  go_wp2_with fail
  go_loopw [5] (fun x wr => x = .int .i64 0 ∧ wr = w) (fun _ _ => 0)
  case atStart => exact ⟨rfl, rfl⟩
  case round =>
    obtain ⟨rfl, rfl⟩ := hrel
    have nso : some wl ≠ (Value.slice so k sc).ownBlock := fun e => (hso wl e.symm) rfl
    have HR : Hid (wr.ownsRow 0 61 1 (.slice so k sc) k vals) := hrow
    clear hrow
    go_wp2_with (at_builtin; refine wpList_append_lies _ rfl _ _ 27 rfl 0 61 i0 _ 1 24 Tryz.underlying27 hi hz0 hz1 hz2 rfl (by decide) (.slice so k sc) k vals rfl (HR.out.alloc _) ⟨wr.heap.size, 0, none⟩ 1 1 [.slice none 0 0] rfl rfl (World.news_of_block (heap_alloc_new wr _)) (slice_one _ _ _) (by decide) (by unfold maxLen; omega) (by omega) (Nat.zero_le _) _ rfl ?_; intro g' cap' w4 hown hgrow hat hlt4; have hW4 : w4.heap[wl]? = some (.cells cs 31 (0, 0)) := ((hgrow.block wl (by simp; omega) nso).trans (below_alloc wr _ |>.block wl hwl)).trans HWW.out; have f4 := frozen_of_row w4 wl 2 cs _ hW4; have c4' : w4.cell? ⟨wl, 2, none⟩ = some (.slice so k sc) := (World.cell?_of_block (w := wr) (a := ⟨wl, 2, none⟩) (((hgrow.block wl (by simp; omega) nso).trans (below_alloc wr _ |>.block wl hwl)))).trans c2)
    go_returns
    have hall : ∀ b, b < wr.heap.size → some b ≠ (Value.slice so k sc).ownBlock → w4.heap[b]? = wr.heap[b]? := fun b hb hne => (hgrow.block b (by simp; omega) hne).trans ((below_alloc wr _).block b hb)
    have hg'wl : g' ≠ wl := fun e => by
      subst e
      rcases hat with hat | hat
      · exact nso hat.symm
      · simp at hat; omega
    refine ⟨rfl, some ⟨g', 0, none⟩, cap', heap_setCell_same w4 wl 2 cs _ _ hW4, ?_, ?_, ?_⟩
    · exact ownsRow_same hown (fun b hb => Below.heap_setCell _ _ _ _ (fun e => hg'wl (by
        have : g' = b := by simpa [Value.ownBlock] using hb
        rw [this]; exact e)))
    · intro b hb
      have e : g' = b := by simpa [Value.ownBlock] using hb
      subst e
      rcases hat with hat | hat
      · exact .inl hat
      · simp at hat; exact .inr (by omega)
    · refine Off.setCell ?_ (.inl (.inl rfl)) _
      have hsz := hgrow.size
      simp only [World.size_alloc] at hsz
      exact ⟨hgrow.os, hgrow.tape, hgrow.output, by omega, fun b hb hn => hall b hb (fun e => hn (.inr e.symm))⟩
end Go.Proofs.YtgkiknfpcbcnnaaGreat
namespace Go.Proofs.YtgkiknfpcbcnnaaGreat
open Go.RowKit
set_option maxRecDepth 20000
def SsAt (w : World) (v : Value) (k : Nat) : Prop := v = .slice none 0 0 ∨ ∃ G c, v = .slice (some ⟨G, 0, none⟩) c c ∧ c ≤ 9223372036854775807 ∧ MkT w G c k c
theorem row_one' {w : World} {B : Nat} {e : TypeId} {ao : Option Addr} {n c : Nat} {xs : List Value} (h : w.ownsRow B e 1 (.slice ao n c) n xs) (hl : 0 < n) : ∃ g, ao = some ⟨g, 0, none⟩ ∧ g < w.heap.size ∧ ∀ i (hi : i < xs.length), w.cell? ⟨g, i, none⟩ = some xs[i] := by
  rcases h.2 with ⟨_, h0⟩ | ⟨g, c', cur, hv, hg, hh, _⟩
  · omega
  · simp only [Value.slice.injEq] at hv
    refine ⟨g, hv.1, lt_of_block hh, fun i hi => ?_⟩
    have c1 := h.cells (g := g) (by rw [hv.1]; rfl) i xs[i] (List.getElem?_eq_getElem hi)
    rw [add0, Nat.zero_add] at c1
    exact c1
end Go.Proofs.YtgkiknfpcbcnnaaGreat
namespace Go.Proofs.YtgkiknfpcbcnnaaGreat
open Go.RowKit
set_option maxRecDepth 20000
theorem lawPick_any (c n : Int) (w : World) (h0 : -9223372036854775808 ≤ c) (h1 : c ≤ 9223372036854775807) (hn : 0 < n) (hn2 : n ≤ 140737488355328) :
    Calls Tryz.prog 13 #[.int .i64 c, .int .i64 n] w fun e w' => e = .returned (.int .i64 (pk c n)) ∧ w' = w := by
  by_cases hc : c < 0
  · have e : pk c n = -((c + 1).tmod n) := by unfold pk; rw [if_pos hc, ← Int.neg_tmod]; exact (Int.tmod_eq_emod_of_nonneg (by omega)).symm
    rw [e]; clear e
    go_enter Tryz.func13, Tryz.ntmps13
    go_wp2
    go_ret
    exact ⟨rfl, rfl⟩
  · have e : pk c n = c % n := by unfold pk; rw [if_neg hc]
    rw [e]; clear e
    go_enter Tryz.func13, Tryz.ntmps13
    go_wp2
    go_ret
    exact ⟨rfl, rfl⟩
end Go.Proofs.YtgkiknfpcbcnnaaGreat
