import Derived.Test.YtgkiknfpcbcnnaaGreatGaj
import Derived.Test.YtgkiknfpcbcnnaaGreatTba
namespace Go.Proofs.YtgkiknfpcbcnnaaGreat
open Go.RowKit
set_option maxRecDepth 20000
def bdE (n : Nat) : En := ⟨⟨#[116, 104, 101, 32, 99, 97, 108, 108, 101, 114, 39, 115]⟩, -9 - (n : Int), ⟨#[116, 104, 101, 32, 99, 97, 108, 108, 101, 114, 39, 115]⟩⟩
theorem badEntry_any (n : Nat) (w : World) (hn : n ≤ 140737488355328) :
    Calls Tryz.prog 16 #[.int .i64 (n : Int)] w fun e w' => e = .returned (.agg #[.string (bdE n).bt, .int .i64 (bdE n).ac, .string (bdE n).tx]) ∧ Below w.heap.size w w' := by
  go_enter Tryz.func16, Tryz.ntmps16
  go_wp2_with fail
  exact bodyPost_ret (v := .agg #[.string ⟨#[116, 104, 101, 32, 99, 97, 108, 108, 101, 114, 39, 115]⟩, .int .i64 (-9 - (n : Int)), .string ⟨#[116, 104, 101, 32, 99, 97, 108, 108, 101, 114, 39, 115]⟩]) (by simp [results, Tryz.results16, go_sem]) rfl ⟨rfl, below_alloc _ _⟩
def MkE (w : World) (G c k m : Nat) : Prop := ∃ cur : Array Value, w.heap[G]? = some (.cells cur 63 (0, 0)) ∧ cur.size = c * 3 ∧ ∀ p, p < m → w.rangeAt G (p * 3) (enC (bdE k))
theorem MkE.same {w w' : World} {G c k m : Nat} (h : MkE w G c k m) (hb : w'.heap[G]? = w.heap[G]?) : MkE w' G c k m := by
  obtain ⟨cur, h1, h2, h3⟩ := h
  exact ⟨cur, by rw [hb]; exact h1, h2, fun p hp j u hu => (World.cell?_of_block (w := w) (a := ⟨G, p * 3 + j, none⟩) hb).trans (h3 p hp j u hu)⟩
theorem thereE {w : World} {G c k m p : Nat} (h : MkE w G c k m) (hp : p < c) : w.there G (p * 3) 3 := by
  obtain ⟨cur, h1, h2, _⟩ := h
  intro j hj
  have hl : p * 3 + j < cur.size := by rw [h2]; omega
  exact ⟨by rw [cell_of_row w G _ cur _ _ h1, Array.getElem?_eq_getElem hl]; rfl, frozen_of_row w _ _ cur _ h1⟩
theorem MkE.step {w : World} {G c k m : Nat} (h : MkE w G c k m) (hm : m < c) : MkE (w.setCells G (m * 3) (enC (bdE k))) G c k (m + 1) := by
  have ht := thereE h hm
  obtain ⟨cur, h1, h2, h3⟩ := h
  obtain ⟨cur', e1, e2⟩ := setCells_shape (enC (bdE k)) (m * 3) h1
  refine ⟨cur', e1, e2.trans h2, fun p hp => ?_⟩
  by_cases he : p = m
  · subst he
    exact World.rangeAt_setCells_same w _ _ _ ht
  · refine World.rangeAt_setCells_apart (h3 p (by omega)) _ _ _ (.inr (.inl ?_))
    show p * 3 + 3 ≤ m * 3
    omega
theorem MkE.start {w : World} {B G n c k : Nat} {L : List En} (h : ERow w B (.slice (some ⟨G, 0, none⟩) n c) L) : MkE w G c k 0 ∧ c ≤ 9223372036854775807 ∧ n ≤ c := by
  rcases h.2 with ⟨he, _⟩ | ⟨g, c', cur, hv, _, hh, hnc, hml, hcs, _⟩
  · simp at he
  · simp only [Value.slice.injEq, Option.some.injEq, Addr.mk.injEq, and_true] at hv
    obtain ⟨rfl, rfl, rfl⟩ := hv
    exact ⟨⟨cur, hh, hcs, fun p hp => by omega⟩, by unfold maxLen at hml; omega, hnc⟩
theorem infoListE : (Tryz.prog.info? 53).map (fun i => (i.zero, i.size, i.bytes)) = some (some (.slice none 0 0), 1, 24) := by kernel_rfl
set_option maxHeartbeats 1600000 in
/-- A list that holds something is written full, its spare room too, and kept. -/
theorem keepEntries_some (wl : Nat) (so : Option Addr) (k sc : Nat) (vals : List Value) (G n c : Nat) (w : World) (cs : Array Value) (hW : w.heap[wl]? = some (.cells cs 31 (0, 0))) (h2 : cs[3]? = some (.slice so k sc)) (hrow : w.ownsRow 0 53 1 (.slice so k sc) k vals) (hl : MkE w G c k 0) (hGl : G ≠ wl) (hc : c ≤ 9223372036854775807) (hnc : n ≤ c) (hk : (k + 1) * 24 ≤ 140737488355328) (hso : ∀ b, (Value.slice so k sc).ownBlock = some b → b ≠ wl ∧ b ≠ G) :
    Calls Tryz.prog 40 #[ptrV wl, .slice (some ⟨G, 0, none⟩) n c] w fun e w' => e = .returned (.tuple #[]) ∧ MkE w' G c k c ∧ ∃ so' sc', w'.heap[wl]? = some (.cells (cs.setIfInBounds 3 (.slice so' (k + 1) sc')) 31 (0, 0)) ∧ w'.ownsRow 0 53 1 (.slice so' (k + 1) sc') (k + 1) (vals ++ [.slice (some ⟨G, 0, none⟩) c c]) ∧ (∀ b, (Value.slice so' (k + 1) sc').ownBlock = some b → (Value.slice so k sc).ownBlock = some b ∨ w.heap.size ≤ b) ∧ Off (fun b => b = wl ∨ b = G ∨ (Value.slice so k sc).ownBlock = some b) w w' := by
  obtain ⟨i0, hi, hz0, hz1, hz2⟩ := info_parts infoListE
  have hwl := lt_of_block hW
  have c2 : w.cell? ⟨wl, 3, none⟩ = some (.slice so k sc) := by rw [cell_of_row w wl 3 cs _ _ hW]; exact h2
  have f2 := frozen_of_row w wl 3 cs _ hW
  have HWW : Hid (w.heap[wl]? = some (.cells cs 31 (0, 0))) := hW
  clear hW h2
  unfold ptrV
  have HL : Hid (MkE w G c k 0) := hl
  clear hl
  go_enter Tryz.func40, Tryz.ntmps40
  go_wp2_with fail
  go_loopw [5] (fun x wr => ∃ i : Nat, x = .int .i64 i ∧ i ≤ c ∧ Hid (MkE wr G c k i) ∧ Off (fun b => b = G) w wr) (fun x _ => c - (intOf x).toNat)
  case atStart => exact ⟨0, rfl, Nat.zero_le _, HL, Off.refl _ _⟩
  case round =>
    obtain ⟨i, rfl, hic, HM, hoff⟩ := hrel
    have hz := hoff.size
    have k2 := (hoff.cell (a := ⟨wl, 3, none⟩) hwl (fun e => hGl e.symm)).trans c2
    by_cases hlt : i < c
    · clear HL
      go_wp2_with fail
      refine (badEntry_any k _ (by omega)).mono ?_
      rintro e w1 ⟨rfl, hb1⟩
      have hGz : G < wr.heap.size := by obtain ⟨cur, h1, _⟩ := HM.out; exact lt_of_block h1
      have HM1 : Hid (MkE w1 G c k i) := HM.out.same (hb1.block G hGz)
      have hth := thereE HM1.out hlt
      obtain ⟨u0, t0⟩ := there_cell hth 0 (by omega)
      obtain ⟨u1, t1⟩ := there_cell hth 1 (by omega)
      obtain ⟨u2, t2⟩ := there_cell hth 2 (by omega)
      have f0 := (hth 0 (by omega)).2
      have f1 := (hth 1 (by omega)).2
      have f2' := (hth 2 (by omega)).2
      rw [Nat.add_zero] at t0 f0
      have HN : Hid (MkE (w1.setCells G (i * 3) (enC (bdE k))) G c k (i + 1)) := HM1.out.step hlt
      have HO : Hid (Off (fun b => b = G) w (w1.setCells G (i * 3) (enC (bdE k)))) := (hoff.then hb1).setCells _ _ (.inl rfl)
      clear HM HM1 hth
      go_wp2_with fail
      go_roundw
      case rel => exact ⟨i + 1, by go_num, by omega, HN, HO.out⟩
      case measure => simp [intOf]; omega
    · obtain rfl : i = c := by omega
      have f2r := (hoff.frozen (a := ⟨wl, 3, none⟩) hwl (fun e => hGl e.symm)).trans f2
      have hGz : G < wr.heap.size := by obtain ⟨cur, h1, _⟩ := HM.out; exact lt_of_block h1
      have hrowr : wr.ownsRow 0 53 1 (.slice so k sc) k vals := ownsRow_same hrow (fun b hb => hoff.block b (World.ownsRow.lt hrow b hb).2 (hso b hb).2)
      have hWr : wr.heap[wl]? = some (.cells cs 31 (0, 0)) := (hoff.block wl hwl (fun e => hGl e.symm)).trans HWW.out
      have HWr : Hid (wr.heap[wl]? = some (.cells cs 31 (0, 0))) := hWr
      clear hWr HL
      have hwlr : wl < wr.heap.size := by omega
      have nso : some wl ≠ (Value.slice so k sc).ownBlock := fun e => (hso wl e.symm).1 rfl
      have nsoG : some G ≠ (Value.slice so k sc).ownBlock := fun e => (hso G e.symm).2 rfl
      go_wp2_with (at_builtin; refine wpList_append_lies _ rfl _ _ 28 rfl 0 53 i0 _ 1 24 Tryz.underlying28 hi hz0 hz1 hz2 rfl (by decide) (.slice so k sc) k vals rfl (hrowr.alloc _) ⟨wr.heap.size, 0, none⟩ 1 1 [.slice (some ⟨G, 0, none⟩) i i] rfl rfl (World.news_of_block (heap_alloc_new wr _)) (slice_one _ _ _) (by decide) (by unfold maxLen; omega) (by omega) (Nat.zero_le _) _ rfl ?_; intro g' cap' w4 hown hgrow hat hlt4; have hW4 : w4.heap[wl]? = some (.cells cs 31 (0, 0)) := ((hgrow.block wl (by simp; omega) nso).trans (below_alloc wr _ |>.block wl hwlr)).trans HWr.out; have c4 := (cell_of_row w4 wl 3 cs _ _ hW4); have f4 := frozen_of_row w4 wl 3 cs _ hW4; have c4' : w4.cell? ⟨wl, 3, none⟩ = some (.slice so k sc) := (World.cell?_of_block (w := wr) (a := ⟨wl, 3, none⟩) (((hgrow.block wl (by simp; omega) nso).trans (below_alloc wr _ |>.block wl hwlr)))).trans k2; clear c4)
      go_returns
      have hall : ∀ b, b < wr.heap.size → some b ≠ (Value.slice so k sc).ownBlock → w4.heap[b]? = wr.heap[b]? := fun b hb hne => (hgrow.block b (by simp; omega) hne).trans ((below_alloc wr _).block b hb)
      have hg'wl : g' ≠ wl := fun e => by
        subst e
        rcases hat with hat | hat
        · exact nso hat.symm
        · simp at hat; omega
      refine ⟨rfl, HM.out.same ((Below.heap_setCell _ _ _ _ hGl).trans (hall G hGz nsoG)), some ⟨g', 0, none⟩, cap', heap_setCell_same w4 wl 3 cs _ _ hW4, ?_, ?_, ?_⟩
      · exact ownsRow_same hown (fun b hb => Below.heap_setCell _ _ _ _ (fun e => hg'wl (by
          have : g' = b := by simpa [Value.ownBlock] using hb
          rw [this]; exact e)))
      · intro b hb
        have e : g' = b := by simpa [Value.ownBlock] using hb
        subst e
        rcases hat with hat | hat
        · exact .inl hat
        · simp at hat; exact .inr (by omega)
      · refine Off.setCell ?_ (.inl (.inl rfl)) _
        have hsz := hgrow.size
        simp only [World.size_alloc] at hsz
        refine ⟨hgrow.os.trans hoff.os, hgrow.tape.trans hoff.tape, hgrow.output.trans hoff.output, by omega, fun b hb hn => ?_⟩
        rw [hall b (by omega) (fun e => hn (.inr (.inr e.symm)))]
        exact hoff.block b hb (fun e => hn (.inr (.inl e)))
set_option maxHeartbeats 1600000 in
/-- A list that is none is kept. -/
theorem keepEntries_none (wl : Nat) (so : Option Addr) (k sc : Nat) (vals : List Value) (w : World) (cs : Array Value) (hW : w.heap[wl]? = some (.cells cs 31 (0, 0))) (h2 : cs[3]? = some (.slice so k sc)) (hrow : w.ownsRow 0 53 1 (.slice so k sc) k vals) (hk : (k + 1) * 24 ≤ 140737488355328) (hso : ∀ b, (Value.slice so k sc).ownBlock = some b → b ≠ wl) :
    Calls Tryz.prog 40 #[ptrV wl, .slice none 0 0] w fun e w' => e = .returned (.tuple #[]) ∧ ∃ so' sc', w'.heap[wl]? = some (.cells (cs.setIfInBounds 3 (.slice so' (k + 1) sc')) 31 (0, 0)) ∧ w'.ownsRow 0 53 1 (.slice so' (k + 1) sc') (k + 1) (vals ++ [.slice none 0 0]) ∧ (∀ b, (Value.slice so' (k + 1) sc').ownBlock = some b → (Value.slice so k sc).ownBlock = some b ∨ w.heap.size ≤ b) ∧ Off (fun b => b = wl ∨ (Value.slice so k sc).ownBlock = some b) w w' := by
  obtain ⟨i0, hi, hz0, hz1, hz2⟩ := info_parts infoListE
  have hwl := lt_of_block hW
  have c2 : w.cell? ⟨wl, 3, none⟩ = some (.slice so k sc) := by rw [cell_of_row w wl 3 cs _ _ hW]; exact h2
  have f2 := frozen_of_row w wl 3 cs _ hW
  have HWW : Hid (w.heap[wl]? = some (.cells cs 31 (0, 0))) := hW
  clear hW h2
  unfold ptrV
  go_enter Tryz.func40, Tryz.ntmps40
  go_wp2_with fail
  go_loopw [5] (fun x wr => x = .int .i64 0 ∧ wr = w) (fun _ _ => 0)
  case atStart => exact ⟨rfl, rfl⟩
  case round =>
    obtain ⟨rfl, rfl⟩ := hrel
    have nso : some wl ≠ (Value.slice so k sc).ownBlock := fun e => (hso wl e.symm) rfl
    have HR : Hid (wr.ownsRow 0 53 1 (.slice so k sc) k vals) := hrow
    clear hrow
    go_wp2_with (at_builtin; refine wpList_append_lies _ rfl _ _ 28 rfl 0 53 i0 _ 1 24 Tryz.underlying28 hi hz0 hz1 hz2 rfl (by decide) (.slice so k sc) k vals rfl (HR.out.alloc _) ⟨wr.heap.size, 0, none⟩ 1 1 [.slice none 0 0] rfl rfl (World.news_of_block (heap_alloc_new wr _)) (slice_one _ _ _) (by decide) (by unfold maxLen; omega) (by omega) (Nat.zero_le _) _ rfl ?_; intro g' cap' w4 hown hgrow hat hlt4; have hW4 : w4.heap[wl]? = some (.cells cs 31 (0, 0)) := ((hgrow.block wl (by simp; omega) nso).trans (below_alloc wr _ |>.block wl hwl)).trans HWW.out; have f4 := frozen_of_row w4 wl 3 cs _ hW4; have c4' : w4.cell? ⟨wl, 3, none⟩ = some (.slice so k sc) := (World.cell?_of_block (w := wr) (a := ⟨wl, 3, none⟩) (((hgrow.block wl (by simp; omega) nso).trans (below_alloc wr _ |>.block wl hwl)))).trans c2)
    go_returns
    have hall : ∀ b, b < wr.heap.size → some b ≠ (Value.slice so k sc).ownBlock → w4.heap[b]? = wr.heap[b]? := fun b hb hne => (hgrow.block b (by simp; omega) hne).trans ((below_alloc wr _).block b hb)
    have hg'wl : g' ≠ wl := fun e => by
      subst e
      rcases hat with hat | hat
      · exact nso hat.symm
      · simp at hat; omega
    refine ⟨rfl, some ⟨g', 0, none⟩, cap', heap_setCell_same w4 wl 3 cs _ _ hW4, ?_, ?_, ?_⟩
    · exact ownsRow_same hown (fun b hb => Below.heap_setCell _ _ _ _ (fun e => hg'wl (by
        have : g' = b := by simpa [Value.ownBlock] using hb
        rw [this]; exact e)))
    · intro b hb
      have e : g' = b := by simpa [Value.ownBlock] using hb
      subst e
      rcases hat with hat | hat
      · exact .inl hat
      · simp at hat; exact .inr (by omega)
    · refine Off.setCell ?_ (.inl (.inl rfl)) _
      have hsz := hgrow.size
      simp only [World.size_alloc] at hsz
      exact ⟨hgrow.os, hgrow.tape, hgrow.output, by omega, fun b hb hn => hall b hb (fun e => hn (.inr e.symm))⟩
def SeAt (w : World) (v : Value) (k : Nat) : Prop := v = .slice none 0 0 ∨ ∃ G c, v = .slice (some ⟨G, 0, none⟩) c c ∧ c ≤ 9223372036854775807 ∧ MkE w G c k c
theorem SeAt.same {w w' : World} {v : Value} {k : Nat} (h : SeAt w v k) (hb : ∀ b, v.ownBlock = some b → w'.heap[b]? = w.heap[b]?) : SeAt w' v k := by
  rcases h with h | ⟨G, c, h1, h2, h3⟩
  · exact .inl h
  · exact .inr ⟨G, c, h1, h2, h3.same (hb G (by rw [h1]; rfl))⟩
theorem SeAt.lt {w : World} {v : Value} {k : Nat} (h : SeAt w v k) : ∀ b, v.ownBlock = some b → b < w.heap.size := by
  intro b hb
  rcases h with h | ⟨G, c, h1, h2, h3⟩
  · rw [h] at hb; simp [Value.ownBlock] at hb
  · rw [h1] at hb
    have : G = b := by simpa [Value.ownBlock] using hb
    subst this
    obtain ⟨cur, e, _⟩ := h3; exact lt_of_block e
theorem keepEntries_any (wl : Nat) (so : Option Addr) (k sc : Nat) (vals : List Value) (v : Value) (B : Nat) (L : List En) (w : World) (cs : Array Value) (hW : w.heap[wl]? = some (.cells cs 31 (0, 0))) (h2 : cs[3]? = some (.slice so k sc)) (hrow : w.ownsRow 0 53 1 (.slice so k sc) k vals) (hv : ERow w B v L) (hvn : ∀ b, v.ownBlock = some b → b ≠ wl) (hk : (k + 1) * 24 ≤ 140737488355328) (hso : ∀ b, (Value.slice so k sc).ownBlock = some b → b ≠ wl ∧ v.ownBlock ≠ some b) :
    Calls Tryz.prog 40 #[ptrV wl, v] w fun e w' => e = .returned (.tuple #[]) ∧ ∃ v' so' sc', SeAt w' v' k ∧ (∀ b, v'.ownBlock = some b → v.ownBlock = some b) ∧ w'.heap[wl]? = some (.cells (cs.setIfInBounds 3 (.slice so' (k + 1) sc')) 31 (0, 0)) ∧ w'.ownsRow 0 53 1 (.slice so' (k + 1) sc') (k + 1) (vals ++ [v']) ∧ (∀ b, (Value.slice so' (k + 1) sc').ownBlock = some b → (Value.slice so k sc).ownBlock = some b ∨ w.heap.size ≤ b) ∧ Off (fun b => b = wl ∨ v.ownBlock = some b ∨ (Value.slice so k sc).ownBlock = some b) w w' := by
  rcases hv.2 with ⟨rfl, _⟩ | ⟨G, c, cur, rfl, _⟩
  · refine (keepEntries_none wl so k sc vals w cs hW h2 hrow hk (fun b hb => (hso b hb).1)).mono ?_
    rintro e w' ⟨rfl, so', sc', e1, e2, e3, e4⟩
    exact ⟨rfl, .slice none 0 0, so', sc', .inl rfl, fun b hb => hb, e1, e2, e3, e4.mono (fun b hb => by rcases hb with hb | hb; exact .inl hb; exact .inr (.inr hb))⟩
  · obtain ⟨m1, m2, m3⟩ := MkE.start (k := k) hv
    refine (keepEntries_some wl so k sc vals G _ c w cs hW h2 hrow m1 (hvn G rfl) m2 m3 hk (fun b hb => ⟨(hso b hb).1, fun e => (hso b hb).2 (by rw [e]; rfl)⟩)).mono ?_
    rintro e w' ⟨rfl, e0, so', sc', e1, e2, e3, e4⟩
    exact ⟨rfl, .slice (some ⟨G, 0, none⟩) c c, so', sc', .inr ⟨G, c, rfl, m2, e0⟩, fun b hb => hb, e1, e2, e3, e4.mono (fun b hb => by rcases hb with hb | hb | hb; exact .inl hb; exact .inr (.inl (by rw [hb]; rfl)); exact .inr (.inr hb))⟩
end Go.Proofs.YtgkiknfpcbcnnaaGreat
namespace Go.Proofs.YtgkiknfpcbcnnaaGreat
open Go.RowKit
set_option maxRecDepth 20000
def bdW (n : Nat) : Wr := ⟨-9, -9 - (n : Int), enZ⟩
theorem badWrite_any (n : Nat) (w : World) (hn : n ≤ 140737488355328) :
    Calls Tryz.prog 17 #[.int .i64 (n : Int)] w fun e w' => e = .returned (.agg #[.int .i64 (bdW n).kd, .int .i64 (bdW n).pl, .string (bdW n).en.bt, .int .i64 (bdW n).en.ac, .string (bdW n).en.tx]) ∧ Below w.heap.size w w' := by
  go_enter Tryz.func17, Tryz.ntmps17
  go_wp2_with fail
  exact bodyPost_ret (v := .agg #[.int .i64 (-9), .int .i64 (-9 - (n : Int)), .string ⟨#[]⟩, .int .i64 0, .string ⟨#[]⟩]) (by simp [results, Tryz.results17, go_sem]) rfl ⟨rfl, below_alloc _ _⟩
def MkW (w : World) (G c k m : Nat) : Prop := ∃ cur : Array Value, w.heap[G]? = some (.cells cur 66 (0, 0)) ∧ cur.size = c * 5 ∧ ∀ p, p < m → w.rangeAt G (p * 5) (wrC (bdW k))
theorem MkW.same {w w' : World} {G c k m : Nat} (h : MkW w G c k m) (hb : w'.heap[G]? = w.heap[G]?) : MkW w' G c k m := by
  obtain ⟨cur, h1, h2, h3⟩ := h
  exact ⟨cur, by rw [hb]; exact h1, h2, fun p hp j u hu => (World.cell?_of_block (w := w) (a := ⟨G, p * 5 + j, none⟩) hb).trans (h3 p hp j u hu)⟩
theorem thereW {w : World} {G c k m p : Nat} (h : MkW w G c k m) (hp : p < c) : w.there G (p * 5) 5 := by
  obtain ⟨cur, h1, h2, _⟩ := h
  intro j hj
  have hl : p * 5 + j < cur.size := by rw [h2]; omega
  exact ⟨by rw [cell_of_row w G _ cur _ _ h1, Array.getElem?_eq_getElem hl]; rfl, frozen_of_row w _ _ cur _ h1⟩
theorem MkW.step {w : World} {G c k m : Nat} (h : MkW w G c k m) (hm : m < c) : MkW (w.setCells G (m * 5) (wrC (bdW k))) G c k (m + 1) := by
  have ht := thereW h hm
  obtain ⟨cur, h1, h2, h3⟩ := h
  obtain ⟨cur', e1, e2⟩ := setCells_shape (wrC (bdW k)) (m * 5) h1
  refine ⟨cur', e1, e2.trans h2, fun p hp => ?_⟩
  by_cases he : p = m
  · subst he
    exact World.rangeAt_setCells_same w _ _ _ ht
  · refine World.rangeAt_setCells_apart (h3 p (by omega)) _ _ _ (.inr (.inl ?_))
    show p * 5 + 5 ≤ m * 5
    omega
theorem MkW.start {w : World} {B G n c k : Nat} {L : List Wr} (h : WRow w B (.slice (some ⟨G, 0, none⟩) n c) L) : MkW w G c k 0 ∧ c ≤ 9223372036854775807 ∧ n ≤ c := by
  rcases h.2 with ⟨he, _⟩ | ⟨g, c', cur, hv, _, hh, hnc, hml, hcs, _⟩
  · simp at he
  · simp only [Value.slice.injEq, Option.some.injEq, Addr.mk.injEq, and_true] at hv
    obtain ⟨rfl, rfl, rfl⟩ := hv
    exact ⟨⟨cur, hh, hcs, fun p hp => by omega⟩, by unfold maxLen at hml; omega, hnc⟩
theorem infoListW : (Tryz.prog.info? 68).map (fun i => (i.zero, i.size, i.bytes)) = some (some (.slice none 0 0), 1, 24) := by kernel_rfl
set_option maxHeartbeats 1600000 in
/-- A list that holds something is written full, its spare room too, and kept. -/
theorem keepWrites_some (wl : Nat) (so : Option Addr) (k sc : Nat) (vals : List Value) (G n c : Nat) (w : World) (cs : Array Value) (hW : w.heap[wl]? = some (.cells cs 31 (0, 0))) (h2 : cs[4]? = some (.slice so k sc)) (hrow : w.ownsRow 0 68 1 (.slice so k sc) k vals) (hl : MkW w G c k 0) (hGl : G ≠ wl) (hc : c ≤ 9223372036854775807) (hnc : n ≤ c) (hk : (k + 1) * 24 ≤ 140737488355328) (hso : ∀ b, (Value.slice so k sc).ownBlock = some b → b ≠ wl ∧ b ≠ G) :
    Calls Tryz.prog 48 #[ptrV wl, .slice (some ⟨G, 0, none⟩) n c] w fun e w' => e = .returned (.tuple #[]) ∧ MkW w' G c k c ∧ ∃ so' sc', w'.heap[wl]? = some (.cells (cs.setIfInBounds 4 (.slice so' (k + 1) sc')) 31 (0, 0)) ∧ w'.ownsRow 0 68 1 (.slice so' (k + 1) sc') (k + 1) (vals ++ [.slice (some ⟨G, 0, none⟩) c c]) ∧ (∀ b, (Value.slice so' (k + 1) sc').ownBlock = some b → (Value.slice so k sc).ownBlock = some b ∨ w.heap.size ≤ b) ∧ Off (fun b => b = wl ∨ b = G ∨ (Value.slice so k sc).ownBlock = some b) w w' := by
  obtain ⟨i0, hi, hz0, hz1, hz2⟩ := info_parts infoListW
  have hwl := lt_of_block hW
  have c2 : w.cell? ⟨wl, 4, none⟩ = some (.slice so k sc) := by rw [cell_of_row w wl 4 cs _ _ hW]; exact h2
  have f2 := frozen_of_row w wl 4 cs _ hW
  have HWW : Hid (w.heap[wl]? = some (.cells cs 31 (0, 0))) := hW
  clear hW h2
  unfold ptrV
  have HL : Hid (MkW w G c k 0) := hl
  clear hl
  go_enter Tryz.func48, Tryz.ntmps48
  go_wp2_with fail
  go_loopw [5] (fun x wr => ∃ i : Nat, x = .int .i64 i ∧ i ≤ c ∧ Hid (MkW wr G c k i) ∧ Off (fun b => b = G) w wr) (fun x _ => c - (intOf x).toNat)
  case atStart => exact ⟨0, rfl, Nat.zero_le _, HL, Off.refl _ _⟩
  case round =>
    obtain ⟨i, rfl, hic, HM, hoff⟩ := hrel
    have hz := hoff.size
    have k2 := (hoff.cell (a := ⟨wl, 4, none⟩) hwl (fun e => hGl e.symm)).trans c2
    by_cases hlt : i < c
    · clear HL
      go_wp2_with fail
      refine (badWrite_any k _ (by omega)).mono ?_
      rintro e w1 ⟨rfl, hb1⟩
      have hGz : G < wr.heap.size := by obtain ⟨cur, h1, _⟩ := HM.out; exact lt_of_block h1
      have HM1 : Hid (MkW w1 G c k i) := HM.out.same (hb1.block G hGz)
      have hth := thereW HM1.out hlt
      obtain ⟨u0, t0⟩ := there_cell hth 0 (by omega)
      obtain ⟨u1, t1⟩ := there_cell hth 1 (by omega)
      obtain ⟨u2, t2⟩ := there_cell hth 2 (by omega)
      obtain ⟨u3, t3⟩ := there_cell hth 3 (by omega)
      obtain ⟨u4, t4⟩ := there_cell hth 4 (by omega)
      have f0 := (hth 0 (by omega)).2
      have f1 := (hth 1 (by omega)).2
      have f2' := (hth 2 (by omega)).2
      have f3 := (hth 3 (by omega)).2
      have f4 := (hth 4 (by omega)).2
      rw [Nat.add_zero] at t0 f0
      have HN : Hid (MkW (w1.setCells G (i * 5) (wrC (bdW k))) G c k (i + 1)) := HM1.out.step hlt
      have HO : Hid (Off (fun b => b = G) w (w1.setCells G (i * 5) (wrC (bdW k)))) := (hoff.then hb1).setCells _ _ (.inl rfl)
      clear HM HM1 hth
      go_wp2_with fail
      go_roundw
      case rel => exact ⟨i + 1, by go_num, by omega, HN, HO.out⟩
      case measure => simp [intOf]; omega
    · obtain rfl : i = c := by omega
      have f2r := (hoff.frozen (a := ⟨wl, 4, none⟩) hwl (fun e => hGl e.symm)).trans f2
      have hGz : G < wr.heap.size := by obtain ⟨cur, h1, _⟩ := HM.out; exact lt_of_block h1
      have hrowr : wr.ownsRow 0 68 1 (.slice so k sc) k vals := ownsRow_same hrow (fun b hb => hoff.block b (World.ownsRow.lt hrow b hb).2 (hso b hb).2)
      have hWr : wr.heap[wl]? = some (.cells cs 31 (0, 0)) := (hoff.block wl hwl (fun e => hGl e.symm)).trans HWW.out
      have HWr : Hid (wr.heap[wl]? = some (.cells cs 31 (0, 0))) := hWr
      clear hWr HL
      have hwlr : wl < wr.heap.size := by omega
      have nso : some wl ≠ (Value.slice so k sc).ownBlock := fun e => (hso wl e.symm).1 rfl
      have nsoG : some G ≠ (Value.slice so k sc).ownBlock := fun e => (hso G e.symm).2 rfl
      go_wp2_with (at_builtin; refine wpList_append_lies _ rfl _ _ 29 rfl 0 68 i0 _ 1 24 Tryz.underlying29 hi hz0 hz1 hz2 rfl (by decide) (.slice so k sc) k vals rfl (hrowr.alloc _) ⟨wr.heap.size, 0, none⟩ 1 1 [.slice (some ⟨G, 0, none⟩) i i] rfl rfl (World.news_of_block (heap_alloc_new wr _)) (slice_one _ _ _) (by decide) (by unfold maxLen; omega) (by omega) (Nat.zero_le _) _ rfl ?_; intro g' cap' w4 hown hgrow hat hlt4; have hW4 : w4.heap[wl]? = some (.cells cs 31 (0, 0)) := ((hgrow.block wl (by simp; omega) nso).trans (below_alloc wr _ |>.block wl hwlr)).trans HWr.out; have c4 := (cell_of_row w4 wl 4 cs _ _ hW4); have f4 := frozen_of_row w4 wl 4 cs _ hW4; have c4' : w4.cell? ⟨wl, 4, none⟩ = some (.slice so k sc) := (World.cell?_of_block (w := wr) (a := ⟨wl, 4, none⟩) (((hgrow.block wl (by simp; omega) nso).trans (below_alloc wr _ |>.block wl hwlr)))).trans k2; clear c4)
      go_returns
      have hall : ∀ b, b < wr.heap.size → some b ≠ (Value.slice so k sc).ownBlock → w4.heap[b]? = wr.heap[b]? := fun b hb hne => (hgrow.block b (by simp; omega) hne).trans ((below_alloc wr _).block b hb)
      have hg'wl : g' ≠ wl := fun e => by
        subst e
        rcases hat with hat | hat
        · exact nso hat.symm
        · simp at hat; omega
      refine ⟨rfl, HM.out.same ((Below.heap_setCell _ _ _ _ hGl).trans (hall G hGz nsoG)), some ⟨g', 0, none⟩, cap', heap_setCell_same w4 wl 4 cs _ _ hW4, ?_, ?_, ?_⟩
      · exact ownsRow_same hown (fun b hb => Below.heap_setCell _ _ _ _ (fun e => hg'wl (by
          have : g' = b := by simpa [Value.ownBlock] using hb
          rw [this]; exact e)))
      · intro b hb
        have e : g' = b := by simpa [Value.ownBlock] using hb
        subst e
        rcases hat with hat | hat
        · exact .inl hat
        · simp at hat; exact .inr (by omega)
      · refine Off.setCell ?_ (.inl (.inl rfl)) _
        have hsz := hgrow.size
        simp only [World.size_alloc] at hsz
        refine ⟨hgrow.os.trans hoff.os, hgrow.tape.trans hoff.tape, hgrow.output.trans hoff.output, by omega, fun b hb hn => ?_⟩
        rw [hall b (by omega) (fun e => hn (.inr (.inr e.symm)))]
        exact hoff.block b hb (fun e => hn (.inr (.inl e)))
set_option maxHeartbeats 1600000 in
/-- A list that is none is kept. -/
theorem keepWrites_none (wl : Nat) (so : Option Addr) (k sc : Nat) (vals : List Value) (w : World) (cs : Array Value) (hW : w.heap[wl]? = some (.cells cs 31 (0, 0))) (h2 : cs[4]? = some (.slice so k sc)) (hrow : w.ownsRow 0 68 1 (.slice so k sc) k vals) (hk : (k + 1) * 24 ≤ 140737488355328) (hso : ∀ b, (Value.slice so k sc).ownBlock = some b → b ≠ wl) :
    Calls Tryz.prog 48 #[ptrV wl, .slice none 0 0] w fun e w' => e = .returned (.tuple #[]) ∧ ∃ so' sc', w'.heap[wl]? = some (.cells (cs.setIfInBounds 4 (.slice so' (k + 1) sc')) 31 (0, 0)) ∧ w'.ownsRow 0 68 1 (.slice so' (k + 1) sc') (k + 1) (vals ++ [.slice none 0 0]) ∧ (∀ b, (Value.slice so' (k + 1) sc').ownBlock = some b → (Value.slice so k sc).ownBlock = some b ∨ w.heap.size ≤ b) ∧ Off (fun b => b = wl ∨ (Value.slice so k sc).ownBlock = some b) w w' := by
  obtain ⟨i0, hi, hz0, hz1, hz2⟩ := info_parts infoListW
  have hwl := lt_of_block hW
  have c2 : w.cell? ⟨wl, 4, none⟩ = some (.slice so k sc) := by rw [cell_of_row w wl 4 cs _ _ hW]; exact h2
  have f2 := frozen_of_row w wl 4 cs _ hW
  have HWW : Hid (w.heap[wl]? = some (.cells cs 31 (0, 0))) := hW
  clear hW h2
  unfold ptrV
  go_enter Tryz.func48, Tryz.ntmps48
  go_wp2_with fail
  go_loopw [5] (fun x wr => x = .int .i64 0 ∧ wr = w) (fun _ _ => 0)
  case atStart => exact ⟨rfl, rfl⟩
  case round =>
    obtain ⟨rfl, rfl⟩ := hrel
    have nso : some wl ≠ (Value.slice so k sc).ownBlock := fun e => (hso wl e.symm) rfl
    have HR : Hid (wr.ownsRow 0 68 1 (.slice so k sc) k vals) := hrow
    clear hrow
    go_wp2_with (at_builtin; refine wpList_append_lies _ rfl _ _ 29 rfl 0 68 i0 _ 1 24 Tryz.underlying29 hi hz0 hz1 hz2 rfl (by decide) (.slice so k sc) k vals rfl (HR.out.alloc _) ⟨wr.heap.size, 0, none⟩ 1 1 [.slice none 0 0] rfl rfl (World.news_of_block (heap_alloc_new wr _)) (slice_one _ _ _) (by decide) (by unfold maxLen; omega) (by omega) (Nat.zero_le _) _ rfl ?_; intro g' cap' w4 hown hgrow hat hlt4; have hW4 : w4.heap[wl]? = some (.cells cs 31 (0, 0)) := ((hgrow.block wl (by simp; omega) nso).trans (below_alloc wr _ |>.block wl hwl)).trans HWW.out; have f4 := frozen_of_row w4 wl 4 cs _ hW4; have c4' : w4.cell? ⟨wl, 4, none⟩ = some (.slice so k sc) := (World.cell?_of_block (w := wr) (a := ⟨wl, 4, none⟩) (((hgrow.block wl (by simp; omega) nso).trans (below_alloc wr _ |>.block wl hwl)))).trans c2)
    go_returns
    have hall : ∀ b, b < wr.heap.size → some b ≠ (Value.slice so k sc).ownBlock → w4.heap[b]? = wr.heap[b]? := fun b hb hne => (hgrow.block b (by simp; omega) hne).trans ((below_alloc wr _).block b hb)
    have hg'wl : g' ≠ wl := fun e => by
      subst e
      rcases hat with hat | hat
      · exact nso hat.symm
      · simp at hat; omega
    refine ⟨rfl, some ⟨g', 0, none⟩, cap', heap_setCell_same w4 wl 4 cs _ _ hW4, ?_, ?_, ?_⟩
    · exact ownsRow_same hown (fun b hb => Below.heap_setCell _ _ _ _ (fun e => hg'wl (by
        have : g' = b := by simpa [Value.ownBlock] using hb
        rw [this]; exact e)))
    · intro b hb
      have e : g' = b := by simpa [Value.ownBlock] using hb
      subst e
      rcases hat with hat | hat
      · exact .inl hat
      · simp at hat; exact .inr (by omega)
    · refine Off.setCell ?_ (.inl (.inl rfl)) _
      have hsz := hgrow.size
      simp only [World.size_alloc] at hsz
      exact ⟨hgrow.os, hgrow.tape, hgrow.output, by omega, fun b hb hn => hall b hb (fun e => hn (.inr e.symm))⟩
def SwAt (w : World) (v : Value) (k : Nat) : Prop := v = .slice none 0 0 ∨ ∃ G c, v = .slice (some ⟨G, 0, none⟩) c c ∧ c ≤ 9223372036854775807 ∧ MkW w G c k c
theorem SwAt.same {w w' : World} {v : Value} {k : Nat} (h : SwAt w v k) (hb : ∀ b, v.ownBlock = some b → w'.heap[b]? = w.heap[b]?) : SwAt w' v k := by
  rcases h with h | ⟨G, c, h1, h2, h3⟩
  · exact .inl h
  · exact .inr ⟨G, c, h1, h2, h3.same (hb G (by rw [h1]; rfl))⟩
theorem SwAt.lt {w : World} {v : Value} {k : Nat} (h : SwAt w v k) : ∀ b, v.ownBlock = some b → b < w.heap.size := by
  intro b hb
  rcases h with h | ⟨G, c, h1, h2, h3⟩
  · rw [h] at hb; simp [Value.ownBlock] at hb
  · rw [h1] at hb
    have : G = b := by simpa [Value.ownBlock] using hb
    subst this
    obtain ⟨cur, e, _⟩ := h3; exact lt_of_block e
theorem keepWrites_any (wl : Nat) (so : Option Addr) (k sc : Nat) (vals : List Value) (v : Value) (B : Nat) (L : List Wr) (w : World) (cs : Array Value) (hW : w.heap[wl]? = some (.cells cs 31 (0, 0))) (h2 : cs[4]? = some (.slice so k sc)) (hrow : w.ownsRow 0 68 1 (.slice so k sc) k vals) (hv : WRow w B v L) (hvn : ∀ b, v.ownBlock = some b → b ≠ wl) (hk : (k + 1) * 24 ≤ 140737488355328) (hso : ∀ b, (Value.slice so k sc).ownBlock = some b → b ≠ wl ∧ v.ownBlock ≠ some b) :
    Calls Tryz.prog 48 #[ptrV wl, v] w fun e w' => e = .returned (.tuple #[]) ∧ ∃ v' so' sc', SwAt w' v' k ∧ (∀ b, v'.ownBlock = some b → v.ownBlock = some b) ∧ w'.heap[wl]? = some (.cells (cs.setIfInBounds 4 (.slice so' (k + 1) sc')) 31 (0, 0)) ∧ w'.ownsRow 0 68 1 (.slice so' (k + 1) sc') (k + 1) (vals ++ [v']) ∧ (∀ b, (Value.slice so' (k + 1) sc').ownBlock = some b → (Value.slice so k sc).ownBlock = some b ∨ w.heap.size ≤ b) ∧ Off (fun b => b = wl ∨ v.ownBlock = some b ∨ (Value.slice so k sc).ownBlock = some b) w w' := by
  rcases hv.2 with ⟨rfl, _⟩ | ⟨G, c, cur, rfl, _⟩
  · refine (keepWrites_none wl so k sc vals w cs hW h2 hrow hk (fun b hb => (hso b hb).1)).mono ?_
    rintro e w' ⟨rfl, so', sc', e1, e2, e3, e4⟩
    exact ⟨rfl, .slice none 0 0, so', sc', .inl rfl, fun b hb => hb, e1, e2, e3, e4.mono (fun b hb => by rcases hb with hb | hb; exact .inl hb; exact .inr (.inr hb))⟩
  · obtain ⟨m1, m2, m3⟩ := MkW.start (k := k) hv
    refine (keepWrites_some wl so k sc vals G _ c w cs hW h2 hrow m1 (hvn G rfl) m2 m3 hk (fun b hb => ⟨(hso b hb).1, fun e => (hso b hb).2 (by rw [e]; rfl)⟩)).mono ?_
    rintro e w' ⟨rfl, e0, so', sc', e1, e2, e3, e4⟩
    exact ⟨rfl, .slice (some ⟨G, 0, none⟩) c c, so', sc', .inr ⟨G, c, rfl, m2, e0⟩, fun b hb => hb, e1, e2, e3, e4.mono (fun b hb => by rcases hb with hb | hb | hb; exact .inl hb; exact .inr (.inl (by rw [hb]; rfl)); exact .inr (.inr hb))⟩
end Go.Proofs.YtgkiknfpcbcnnaaGreat
