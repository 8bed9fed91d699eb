import Derived.Test.YtgkiknfpcbcnnabGreatLbg
import Derived.Handy
import Derived.Deep.RegionHeld3
import Derived.Deep.Cut
import Derived.Deep.RegionLaw
import Derived.Deep.AppendLies
namespace Go.Proofs.YtgkiknfpcbcnnabGreat
open Go.RowKit
set_option maxRecDepth 20000

/-- What the writes of a call are, as the run asks them: none with an error; else they turn the table. -/
def WsOK (w' : World) (er : Int) (T0 T1 : List En) (a : Option Addr) (n k : Nat) : Prop := (er ≠ 0 → n = 0 ∧ T1 = T0) ∧ (er = 0 → ∃ Bw ws, n = ws.length ∧ WRow w' Bw (.slice a n k) ws ∧ WrOK T0 T1 ws)
def XPostN (Inv : World → Nat → Gs → (Nat → Prop) → Prop) (F : Nat → Prop) (w : World) (x : Nat) (s0 : Gs) (er : Int) (st : Gs) (e : Ending) (w' : World) : Prop :=
  ∃ a n c F' st', e = .returned (.tuple #[.slice a n c, .int .i64 er]) ∧ WsOK w' er (tabS s0) (tabS st) a n c ∧ Sim st' st ∧ Inv w' x st' F' ∧ (∀ b, F' b → F b ∨ w.heap.size ≤ b) ∧ Off F w w'
theorem XPostW.toN {Inv : World → Nat → Gs → (Nat → Prop) → Prop} {F : Nat → Prop} {w : World} {x : Nat} {s0 : Gs} {er : Int} {st : Gs} {e : Ending} {w' : World} (hn : er ≠ 0 → st = s0) (h : XPostW Inv F w x s0 er st e w') : XPostN Inv F w x s0 er st e w' := by
  obtain ⟨a, c, ws, F', st', h1, h2, h3, h4, h5, h6, h7, _, h9⟩ := h
  exact ⟨a, ws.length, c, F', st', h1, ⟨fun he => ⟨by rw [h3 he]; rfl, by rw [hn he]⟩, fun he => ⟨_, ws, rfl, h2, h4 he⟩⟩, h5, h6, h7, h9⟩
theorem rsS_nz {st : Gs} {pe : Int} (h : rsE pe ≠ 0) : rsS st pe = st := by
  unfold rsE at h
  unfold rsS
  split at h
  · exact absurd rfl h
  · rename_i hp; rw [if_neg hp]
theorem XGate.announceN (X : XGate) {w : World} {x : Nat} {st : Gs} {F : Nat → Prop} (pe bt ln pa : Int) (hX : X.Inv w x st F) (h0 : i64 pe) (h1 : i64 bt) (h2 : i64 ln) (h3 : i64 pa) : Calls Tryz.prog 47 #[ptrV x, .int .i64 pe, .agg #[.int .i64 bt, .int .i64 ln], .int .i64 pa] w fun e w' => XPostN X.Inv F w x st (anE st pe bt ln pa) (anS st pe bt ln pa) e w' :=
  (X.announceW pe bt ln pa hX h0 h1 h2 h3).mono fun _ _ h => h.toN (fun hn => anS_nz hn)
theorem XGate.withdrawN (X : XGate) {w : World} {x : Nat} {st : Gs} {F : Nat → Prop} (pe bt ln : Int) (hX : X.Inv w x st F) (h0 : i64 pe) (h1 : i64 bt) (h2 : i64 ln) : Calls Tryz.prog 79 #[ptrV x, .int .i64 pe, .agg #[.int .i64 bt, .int .i64 ln]] w fun e w' => XPostN X.Inv F w x st (wiE st pe bt ln) (wiS st pe bt ln) e w' :=
  (X.withdrawW pe bt ln hX h0 h1 h2).mono fun _ _ h => h.toN (fun hn => wiS_nz hn)
theorem XGate.addN (X : XGate) {w : World} {x : Nat} {st : Gs} {F : Nat → Prop} (pe : Int) (tx : ByteArray) (ac : Int) (hX : X.Inv w x st F) (h0 : i64 pe) (h1 : i64 ac) (h2 : tx.size ≤ 140737488351232) : Calls Tryz.prog 46 #[ptrV x, .int .i64 pe, .string tx, .int .i64 ac] w fun e w' => XPostN X.Inv F w x st (adE st pe tx ac) (adS st pe tx ac) e w' :=
  (X.addW pe tx ac hX h0 h1 h2).mono fun _ _ h => h.toN (fun hn => adS_nz hn)
theorem XGate.removeN (X : XGate) {w : World} {x : Nat} {st : Gs} {F : Nat → Prop} (pe : Int) (tx : ByteArray) (hX : X.Inv w x st F) (h0 : i64 pe) (h1 : tx.size ≤ 140737488351232) : Calls Tryz.prog 82 #[ptrV x, .int .i64 pe, .string tx] w fun e w' => XPostN X.Inv F w x st (reE st pe tx) (reS st pe tx) e w' :=
  (X.removeW pe tx hX h0 h1).mono fun _ _ h => h.toN (fun hn => reS_nz hn)
theorem XGate.resetN (X : XGate) {w : World} {x : Nat} {st : Gs} {F : Nat → Prop} (pe : Int) (hX : X.Inv w x st F) (h0 : i64 pe) : Calls Tryz.prog 44 #[ptrV x, .int .i64 pe] w fun e w' => XPostN X.Inv F w x st (rsE pe) (rsS st pe) e w' :=
  (X.resetW pe hX h0).mono fun _ _ h => h.toN (fun hn => rsS_nz hn)
/-- The table that the writes have made: its row, its entries. -/
structure Tb where
  v : Value
  T : List En
/-- A gate that is played (sluicekeep's run), in block r, and what must be in it; all its blocks from B on. -/
def runC (x : Nat) (c : Cf) (rv lv : Value) (lk : Bool) (hd : Hd) (tv : Tb) : Array Value := #[.pointer (some ⟨x, 0, none⟩), .int .i64 c.cp, .int .i64 c.bu, .int .i64 c.n0, .int .i64 c.n1, .int .i64 c.n2, .int .i64 c.n3, rv, lv, .bool true, .bool lk, .int .i64 hd.ds, .int .i64 hd.sr, .int .i64 hd.pr, .int .i64 hd.po, .int .i64 hd.fl, .bool hd.la, tv.v]
structure RunJ (X : XGate) (B : Nat) (w : World) (r x : Nat) (c : Cf) (lk : Bool) (hd : Hd) (gs : Nat → Option Obj) (tv : Tb) (rv lv : Value) (rts : List Rt) (rls : List Rl) (st : Gs) (F : Nat → Prop) : Prop where
  cell : w.heap[r]? = some (.cells (runC x c rv lv lk hd tv) 36 (0, 0))
  rrow : w.ownsRow B 69 4 rv rts.length (rtCs rts)
  lrow : w.ownsRow B 64 3 lv rls.length (clCs rls)
  inv : X.Inv w x st F
  br : B ≤ r
  nF : ¬ F r
  bF : ∀ b, F b → B ≤ b
  rF : ∀ b, rv.ownBlock = some b → ¬ F b ∧ b ≠ r ∧ lv.ownBlock ≠ some b
  lF : ∀ b, lv.ownBlock = some b → ¬ F b ∧ b ≠ r
  trow : lk = true → ERow w B tv.v tv.T
  tF : lk = true → ∀ b, tv.v.ownBlock = some b → ¬ F b ∧ b ≠ r ∧ rv.ownBlock ≠ some b ∧ lv.ownBlock ≠ some b
  hok : lk = true → hdOK hd = true
  gst : ∀ b o, gs b = some o → w.heap[b]? = some o ∧ b ≠ r ∧ ¬ F b ∧ rv.ownBlock ≠ some b ∧ lv.ownBlock ≠ some b
structure RunI (X : XGate) (B : Nat) (w : World) (r x : Nat) (c : Cf) (lk : Bool) (hd : Hd) (gs : Nat → Option Obj) (rts : List Rt) (rls : List Rl) : Prop where
  ex : ∃ tv rv lv st F, RunJ X B w r x c lk hd gs tv rv lv rts rls st F ∧ Sim st ⟨c, rts, rls⟩ ∧ (lk = true → tv.T = tabS ⟨c, rts, rls⟩)

section
variable {X : XGate} {B : Nat} {w w' : World} {r x : Nat} {c : Cf} {lk : Bool} {hd : Hd} {gs : Nat → Option Obj} {tv : Tb} {rv lv : Value} {rts : List Rt} {rls : List Rl} {st : Gs} {F : Nat → Prop}

theorem RunJ.lt (h : RunJ X B w r x c lk hd gs tv rv lv rts rls st F) : r < w.heap.size := lt_of_block h.cell
theorem RunJ.bz (h : RunJ X B w r x c lk hd gs tv rv lv rts rls st F) : B ≤ w.heap.size := by have := h.br; have := h.lt; omega
theorem RunJ.tlt (h : RunJ X B w r x c lk hd gs tv rv lv rts rls st F) (hl : lk = true) : ∀ b, tv.v.ownBlock = some b → B ≤ b ∧ b < w.heap.size := fun b hk => World.ownsRow.lt (h.trow hl) b hk
theorem RunJ.below (h : RunJ X B w r x c lk hd gs tv rv lv rts rls st F) (hb : Below w.heap.size w w') : RunJ X B w' r x c lk hd gs tv rv lv rts rls st F :=
  ⟨(hb.block r h.lt).trans h.cell, ownsRow_same h.rrow (fun b hk => hb.block b (World.ownsRow.lt h.rrow b hk).2), ownsRow_same h.lrow (fun b hk => hb.block b (World.ownsRow.lt h.lrow b hk).2), X.same h.inv hb.size (fun b hf => hb.block b (X.lt h.inv b hf)), h.br, h.nF, h.bF, h.rF, h.lF, fun hl => (h.trow hl).below hb, h.tF, h.hok, fun b o hg => ⟨(hb.block b (lt_of_block (h.gst b o hg).1)).trans (h.gst b o hg).1, (h.gst b o hg).2⟩⟩
/-- Behind a call of the gate's. -/
theorem RunJ.call {st' : Gs} {F' : Nat → Prop} (h : RunJ X B w r x c lk hd gs tv rv lv rts rls st F) (ho : Off F w w') (hi : X.Inv w' x st' F') (hF : ∀ b, F' b → F b ∨ w.heap.size ≤ b) : RunJ X B w' r x c lk hd gs tv rv lv rts rls st' F' ∧ Below B w w' := by
  have hz := ho.size
  have hr := h.lt
  have hb := h.br
  have old : ∀ b, b < w.heap.size → F' b → F b := fun b hk hf => by
    rcases hF b hf with hf | hf
    · exact hf
    · omega
  refine ⟨⟨(ho.block r hr h.nF).trans h.cell, ownsRow_same h.rrow (fun b hk => ho.block b (World.ownsRow.lt h.rrow b hk).2 (h.rF b hk).1), ownsRow_same h.lrow (fun b hk => ho.block b (World.ownsRow.lt h.lrow b hk).2 (h.lF b hk).1), hi, h.br, fun hf => h.nF (old r hr hf), ?_, ?_, ?_, fun hl => (h.trow hl).same (fun b hk => ho.block b (h.tlt hl b hk).2 (h.tF hl b hk).1), fun hl b hk => ⟨fun hf => (h.tF hl b hk).1 (old b (h.tlt hl b hk).2 hf), (h.tF hl b hk).2⟩, h.hok, fun b o hg => ⟨(ho.block b (lt_of_block (h.gst b o hg).1) (h.gst b o hg).2.2.1).trans (h.gst b o hg).1, (h.gst b o hg).2.1, fun hf => (h.gst b o hg).2.2.1 (old b (lt_of_block (h.gst b o hg).1) hf), (h.gst b o hg).2.2.2⟩⟩, ho.below (by omega) h.bF⟩
  · intro b hf
    rcases hF b hf with hf | hf
    · exact h.bF b hf
    · omega
  · intro b hk
    exact ⟨fun hf => (h.rF b hk).1 (old b (World.ownsRow.lt h.rrow b hk).2 hf), (h.rF b hk).2⟩
  · intro b hk
    exact ⟨fun hf => (h.lF b hk).1 (old b (World.ownsRow.lt h.lrow b hk).2 hf), (h.lF b hk).2⟩
/-- The mark 'ok', written anew. -/
theorem RunJ.ok9 (h : RunJ X B w r x c lk hd gs tv rv lv rts rls st F) : RunJ X B (w.setCell ⟨r, 9, none⟩ (.bool true)) r x c lk hd gs tv rv lv rts rls st F := by
  have oth : ∀ b, b ≠ r → (w.setCell ⟨r, 9, none⟩ (.bool true)).heap[b]? = w.heap[b]? := fun b hne => Below.heap_setCell _ _ _ _ hne
  have hsz : (w.setCell ⟨r, 9, none⟩ (.bool true)).heap.size = w.heap.size := by simp only [World.setCell, Array.size_modify]
  exact ⟨heap_setCell_same w r 9 _ _ _ h.cell, ownsRow_same h.rrow (fun b hk => oth b (h.rF b hk).2.1), ownsRow_same h.lrow (fun b hk => oth b (h.lF b hk).2), X.same h.inv (by omega) (fun b hf => oth b (fun e => h.nF (e ▸ hf))), h.br, h.nF, h.bF, h.rF, h.lF, fun hl => (h.trow hl).same (fun b hk => oth b (h.tF hl b hk).2.1), h.tF, h.hok, fun b o hg => ⟨(oth b (h.gst b o hg).2.1).trans (h.gst b o hg).1, (h.gst b o hg).2⟩⟩
/-- Another row of routes, of rules, in a fresh block. -/
theorem RunJ.setR {v : Value} {rts' : List Rt} (h : RunJ X B w r x c lk hd gs tv rv lv rts rls st F) (hrow : w.ownsRow B 69 4 v rts'.length (rtCs rts')) (hv : ∀ b, v.ownBlock = some b → ¬ F b ∧ b ≠ r ∧ lv.ownBlock ≠ some b) (hvt : lk = true → ∀ b, tv.v.ownBlock = some b → v.ownBlock ≠ some b) (hvg : ∀ b o, gs b = some o → v.ownBlock ≠ some b) : RunJ X B (w.setCell ⟨r, 7, none⟩ v) r x c lk hd gs tv v lv rts' rls st F := by
  have oth : ∀ b, b ≠ r → (w.setCell ⟨r, 7, none⟩ v).heap[b]? = w.heap[b]? := fun b hne => Below.heap_setCell _ _ _ _ hne
  have hsz : (w.setCell ⟨r, 7, none⟩ v).heap.size = w.heap.size := by simp only [World.setCell, Array.size_modify]
  exact ⟨heap_setCell_same w r 7 _ _ _ h.cell, ownsRow_same hrow (fun b hk => oth b (hv b hk).2.1), ownsRow_same h.lrow (fun b hk => oth b (h.lF b hk).2), X.same h.inv (by omega) (fun b hf => oth b (fun e => h.nF (e ▸ hf))), h.br, h.nF, h.bF, hv, h.lF, fun hl => (h.trow hl).same (fun b hk => oth b (h.tF hl b hk).2.1), fun hl b hk => ⟨(h.tF hl b hk).1, (h.tF hl b hk).2.1, hvt hl b hk, (h.tF hl b hk).2.2.2⟩, h.hok, fun b o hg => ⟨(oth b (h.gst b o hg).2.1).trans (h.gst b o hg).1, (h.gst b o hg).2.1, (h.gst b o hg).2.2.1, hvg b o hg, (h.gst b o hg).2.2.2.2⟩⟩
theorem RunJ.setC {v : Value} {rls' : List Rl} (h : RunJ X B w r x c lk hd gs tv rv lv rts rls st F) (hrow : w.ownsRow B 64 3 v rls'.length (clCs rls')) (hv : ∀ b, v.ownBlock = some b → ¬ F b ∧ b ≠ r ∧ rv.ownBlock ≠ some b) (hvt : lk = true → ∀ b, tv.v.ownBlock = some b → v.ownBlock ≠ some b) (hvg : ∀ b o, gs b = some o → v.ownBlock ≠ some b) : RunJ X B (w.setCell ⟨r, 8, none⟩ v) r x c lk hd gs tv rv v rts rls' st F := by
  have oth : ∀ b, b ≠ r → (w.setCell ⟨r, 8, none⟩ v).heap[b]? = w.heap[b]? := fun b hne => Below.heap_setCell _ _ _ _ hne
  have hsz : (w.setCell ⟨r, 8, none⟩ v).heap.size = w.heap.size := by simp only [World.setCell, Array.size_modify]
  exact ⟨heap_setCell_same w r 8 _ _ _ h.cell, ownsRow_same h.rrow (fun b hk => oth b (h.rF b hk).2.1), ownsRow_same hrow (fun b hk => oth b (hv b hk).2.1), X.same h.inv (by omega) (fun b hf => oth b (fun e => h.nF (e ▸ hf))), h.br, h.nF, h.bF, fun b hk => ⟨(h.rF b hk).1, (h.rF b hk).2.1, fun e => (hv b e).2.2 hk⟩, fun b hk => ⟨(hv b hk).1, (hv b hk).2.1⟩, fun hl => (h.trow hl).same (fun b hk => oth b (h.tF hl b hk).2.1), fun hl b hk => ⟨(h.tF hl b hk).1, (h.tF hl b hk).2.1, (h.tF hl b hk).2.2.1, hvt hl b hk⟩, h.hok, fun b o hg => ⟨(oth b (h.gst b o hg).2.1).trans (h.gst b o hg).1, (h.gst b o hg).2.1, (h.gst b o hg).2.2.1, (h.gst b o hg).2.2.2.1, hvg b o hg⟩⟩
/-- What is read of it. -/
theorem RunJ.read (h : RunJ X B w r x c lk hd gs tv rv lv rts rls st F) : ∃ ro rc lo lc, rv = .slice ro rts.length rc ∧ lv = .slice lo rls.length lc ∧ w.cell? ⟨r, 0, none⟩ = some (.pointer (some ⟨x, 0, none⟩)) ∧ w.cell? ⟨r, 7, none⟩ = some (.slice ro rts.length rc) ∧ w.cell? ⟨r, 8, none⟩ = some (.slice lo rls.length lc) ∧ w.cell? ⟨r, 9, none⟩ = some (.bool true) ∧ w.cell? ⟨r, 10, none⟩ = some (.bool lk) ∧ (∀ j, w.frozen? ⟨r, j, none⟩ = false) ∧ RtIn w ro rts ∧ ClIn w lo rls := by
  obtain ⟨ro, rc, rfl⟩ := ownsRow_shape h.rrow
  obtain ⟨lo, lc, rfl⟩ := ownsRow_shape h.lrow
  have c : ∀ j, w.cell? ⟨r, j, none⟩ = _ := fun j => cell_of_row w r j _ _ _ h.cell
  exact ⟨ro, rc, lo, lc, rfl, rfl, c 0, c 7, c 8, c 9, c 10, fun j => frozen_of_row _ _ _ _ _ h.cell, rtIn_of h.rrow, ClIn.of h.lrow⟩
theorem RunJ.glt (h : RunJ X B w r x c lk hd gs tv rv lv rts rls st F) {b : Nat} {o : Obj} (hg : gs b = some o) : b < w.heap.size := lt_of_block (h.gst b o hg).1
theorem RunI.fin {s1 : Gs} (hj : RunJ X B w r x c lk hd gs tv rv lv rts rls st F) (hs : Sim st ⟨c, rts, rls⟩) (ht : lk = true → tv.T = tabS s1) (hq : Sim st s1) : RunI X B w r x c lk hd gs rts rls :=
  ⟨tv, rv, lv, st, F, hj, hs, fun hl => by rw [ht hl, ← hq.tabS (X.ok hj.inv).tel, hs.tabS (X.ok hj.inv).tel]⟩
end

/-- What is asked of told. -/
def ToldP (X : XGate) (B : Nat) (w : World) (r x : Nat) (c : Cf) (lk : Bool) (hd : Hd) (gs : Nat → Option Obj) (tv : Tb) (rv lv : Value) (rts : List Rt) (rls : List Rl) (st : Gs) (F : Nat → Prop) (T1 : List En) (w' : World) : Prop :=
  ∃ tv', RunJ X B w' r x c lk hd gs tv' rv lv rts rls st F ∧ ((lk = true → tv'.T = T1) ∧ (lk = true → ∀ b, tv'.v.ownBlock = some b → tv.v.ownBlock = some b ∨ w.heap.size ≤ b)) ∧ Below B w w' ∧ Off (fun b => b = r) w w'
def ToldOK (X : XGate) (lk : Bool) : Prop := ∀ {B : Nat} {w : World} {r x : Nat} {c : Cf} {hd : Hd} {gs : Nat → Option Obj} {tv : Tb} {rv lv : Value} {rts : List Rt} {rls : List Rl} {st : Gs} {F : Nat → Prop}, RunJ X B w r x c lk hd gs tv rv lv rts rls st F → ∀ (a : Option Addr) (n k : Nat) (er : Int) (T0 T1 : List En), (lk = true → tv.T = T0) → WsOK w er T0 T1 a n k →
  Calls Tryz.prog 45 #[.pointer (some ⟨r, 0, none⟩), .slice a n k, .int .i64 er, .int .i64 er] w fun e w' => e = .returned (.bool (decide (er = 0))) ∧ ToldP X B w r x c lk hd gs tv rv lv rts rls st F T1 w'
theorem told_yes {X : XGate} {lk : Bool} (H : Hid (ToldOK X lk)) {B : Nat} {w : World} {r x : Nat} {c : Cf} {hd : Hd} {gs : Nat → Option Obj} {tv : Tb} {rv lv : Value} {rts : List Rt} {rls : List Rl} {st : Gs} {F : Nat → Prop} (h : RunJ X B w r x c lk hd gs tv rv lv rts rls st F) {T0 T1 : List En} (hT : lk = true → tv.T = T0) (a : Option Addr) (n k : Nat) (hw : WsOK w 0 T0 T1 a n k) :
    Calls Tryz.prog 45 #[.pointer (some ⟨r, 0, none⟩), .slice a n k, .int .i64 0, .int .i64 0] w fun e w' => e = .returned (.bool true) ∧ ToldP X B w r x c lk hd gs tv rv lv rts rls st F T1 w' := H.out h a n k 0 T0 T1 hT hw
theorem told_no {X : XGate} {lk : Bool} (H : Hid (ToldOK X lk)) {B : Nat} {w : World} {r x : Nat} {c : Cf} {hd : Hd} {gs : Nat → Option Obj} {tv : Tb} {rv lv : Value} {rts : List Rt} {rls : List Rl} {st : Gs} {F : Nat → Prop} (h : RunJ X B w r x c lk hd gs tv rv lv rts rls st F) {T1 : List En} (hT : lk = true → tv.T = T1) (a : Option Addr) (k : Nat) (er : Int) (he : er ≠ 0) :
    Calls Tryz.prog 45 #[.pointer (some ⟨r, 0, none⟩), .slice a 0 k, .int .i64 er, .int .i64 er] w fun e w' => e = .returned (.bool false) ∧ ToldP X B w r x c lk hd gs tv rv lv rts rls st F T1 w' := by
  have := H.out h a 0 k er T1 T1 hT ⟨fun _ => ⟨rfl, rfl⟩, fun e => absurd e he⟩
  rw [decide_eq_false he] at this
  exact this

set_option maxHeartbeats 800000 in
/-- Where the writes are not looked at. -/
theorem told_off (X : XGate) : ToldOK X false := by
  intro B w r x c hd gs tv rv lv rts rls st F h a n k er T0 T1 _ hw
  have HH : Hid (RunJ X B w r x c false hd gs tv rv lv rts rls st F) := h
  have hn : er ≠ 0 → n = 0 := fun he => (hw.1 he).1
  have c9 := cell_of_row w r 9 _ _ _ h.cell
  have c10 := cell_of_row w r 10 _ _ _ h.cell
  have f9 := frozen_of_row w r 9 _ _ h.cell
  simp only [runC] at c9 c10
  clear h hw
  by_cases he : er = 0
  · subst he
    clear hn
    go_enter Tryz.func45, Tryz.ntmps45
    go_wp2_with fail
    go_ret
    exact ⟨rfl, tv, HH.out, ⟨fun hl => (by cases hl), fun hl => (by cases hl)⟩, Below.refl _ _, Off.refl _ _⟩
  · obtain rfl := hn he
    have g1 : (er != 0) = true := by simpa using he
    have HD : Hid (decide (er = 0) = false) := by show _ = _; simpa using he
    clear hn he
    obtain ⟨D, hD⟩ : ∃ D, D = decide (er = 0) := ⟨_, rfl⟩
    rw [← hD] at HD ⊢
    clear hD
    go_enter Tryz.func45, Tryz.ntmps45
    go_wp2_with fail
    go_ret
    exact ⟨by rw [HD.out]; rfl, tv, HH.out.ok9, ⟨fun hl => (by cases hl), fun hl => (by cases hl)⟩, (Below.refl B w).setCell (p := ⟨r, 9, none⟩) HH.out.br _, Off.setCell (F := fun b => b = r) (Off.refl _ w) (a := ⟨r, 9, none⟩) (.inl rfl) _⟩

/-- Where the law's account has the route, the rule: its place; -1: it has none among the first i. -/
def atP (p i : Nat) : Int := if p < i then (p : Int) else -1
theorem atP_step {α : Type} (f : α → Bool) {l : List α} (ho : l.Pairwise fun a b => ¬ (f a = false ∧ f b = false)) (i : Nat) (hi : i < l.length) : atP (l.findIdx fun a => !f a) (i + 1) = if f l[i] then atP (l.findIdx fun a => !f a) i else (i : Int) := by
  unfold atP
  cases hf : f l[i]
  · have h1 : l.findIdx (fun a => !f a) ≤ i := by
      apply Classical.byContradiction
      intro hh
      have := List.not_of_lt_findIdx (p := fun a => !f a) (xs := l) (i := i) (by omega)
      simp [hf] at this
    have h2 : ¬ l.findIdx (fun a => !f a) < i := by
      intro hh
      have hl : l.findIdx (fun a => !f a) < l.length := by omega
      have hg := List.findIdx_getElem (p := fun a => !f a) (xs := l) (w := hl)
      have := (List.pairwise_iff_getElem.1 ho) _ _ hl hi hh
      exact this ⟨by simpa using hg, hf⟩
    have : l.findIdx (fun a => !f a) = i := by omega
    rw [this]
    simp
  · have : l.findIdx (fun a => !f a) ≠ i := by
      intro hh
      have hg := List.findIdx_getElem (p := fun a => !f a) (xs := l) (w := by omega)
      simp only [hh, hf] at hg
      simp at hg
    simp only [if_true]
    by_cases hlt : l.findIdx (fun a => !f a) < i
    · rw [if_pos (by omega), if_pos hlt]
    · rw [if_neg (by omega), if_neg hlt]
end Go.Proofs.YtgkiknfpcbcnnabGreat

namespace Go.Proofs.YtgkiknfpcbcnnabGreat
open Go.RowKit
set_option maxRecDepth 20000

section
variable {X : XGate} {B : Nat} {w w' : World} {r x : Nat} {c : Cf} {lk : Bool} {hd : Hd} {gs : Nat → Option Obj} {tv : Tb} {rv lv : Value} {rts : List Rt} {rls : List Rl} {st : Gs} {F : Nat → Prop}
/-- The row of routes, of rules, written in its place. -/
theorem RunJ.pokeR {rts' : List Rt} (h : RunJ X B w r x c lk hd gs tv rv lv rts rls st F) (ho : Off (fun b => rv.ownBlock = some b) w w') (hrow : w'.ownsRow B 69 4 rv rts'.length (rtCs rts')) : RunJ X B w' r x c lk hd gs tv rv lv rts' rls st F ∧ Below B w w' := by
  have hz := ho.size
  exact ⟨⟨(ho.block r h.lt (fun e => (h.rF r e).2.1 rfl)).trans h.cell, hrow, ownsRow_same h.lrow (fun b hk => ho.block b (World.ownsRow.lt h.lrow b hk).2 (fun e => (h.rF b e).2.2 hk)), X.same h.inv hz (fun b hf => ho.block b (X.lt h.inv b hf) (fun e => (h.rF b e).1 hf)), h.br, h.nF, h.bF, h.rF, h.lF, fun hl => (h.trow hl).same (fun b hk => ho.block b (h.tlt hl b hk).2 (h.tF hl b hk).2.2.1), h.tF, h.hok, fun b o hg => ⟨(ho.block b (h.glt hg) (h.gst b o hg).2.2.2.1).trans (h.gst b o hg).1, (h.gst b o hg).2⟩⟩, ho.below h.bz (fun b hb => (World.ownsRow.lt h.rrow b hb).1)⟩
theorem RunJ.pokeC {rls' : List Rl} (h : RunJ X B w r x c lk hd gs tv rv lv rts rls st F) (ho : Off (fun b => lv.ownBlock = some b) w w') (hrow : w'.ownsRow B 64 3 lv rls'.length (clCs rls')) : RunJ X B w' r x c lk hd gs tv rv lv rts rls' st F ∧ Below B w w' := by
  have hz := ho.size
  exact ⟨⟨(ho.block r h.lt (fun e => (h.lF r e).2 rfl)).trans h.cell, ownsRow_same h.rrow (fun b hk => ho.block b (World.ownsRow.lt h.rrow b hk).2 (fun e => (h.rF b hk).2.2 e)), hrow, X.same h.inv hz (fun b hf => ho.block b (X.lt h.inv b hf) (fun e => (h.lF b e).1 hf)), h.br, h.nF, h.bF, h.rF, h.lF, fun hl => (h.trow hl).same (fun b hk => ho.block b (h.tlt hl b hk).2 (h.tF hl b hk).2.2.2), h.tF, h.hok, fun b o hg => ⟨(ho.block b (h.glt hg) (h.gst b o hg).2.2.2.2).trans (h.gst b o hg).1, (h.gst b o hg).2⟩⟩, ho.below h.bz (fun b hb => (World.ownsRow.lt h.lrow b hb).1)⟩
/-- The row of routes, of rules, grown, and laid in its place. -/
theorem RunJ.growR {v : Value} {rts' : List Rt} (h : RunJ X B w r x c lk hd gs tv rv lv rts rls st F) (ho : Off (fun b => rv.ownBlock = some b) w w') (hrow : w'.ownsRow B 69 4 v rts'.length (rtCs rts')) (hv : ∀ b, v.ownBlock = some b → rv.ownBlock = some b ∨ w.heap.size ≤ b) : RunJ X B (w'.setCell ⟨r, 7, none⟩ v) r x c lk hd gs tv v lv rts' rls st F ∧ Below B w (w'.setCell ⟨r, 7, none⟩ v) := by
  have oth : ∀ b, b ≠ r → (w'.setCell ⟨r, 7, none⟩ v).heap[b]? = w'.heap[b]? := fun b hne => Below.heap_setCell _ _ _ _ hne
  have hz := ho.size
  have hsz : (w'.setCell ⟨r, 7, none⟩ v).heap.size = w'.heap.size := by simp only [World.setCell, Array.size_modify]
  have hr := h.lt
  have hvr : ∀ b, v.ownBlock = some b → ¬ F b ∧ b ≠ r ∧ lv.ownBlock ≠ some b := fun b hk => by
    rcases hv b hk with e | e
    · exact h.rF b e
    · exact ⟨fun hf => by have := X.lt h.inv b hf; omega, by omega, fun e2 => by have := (World.ownsRow.lt h.lrow b e2).2; omega⟩
  refine ⟨⟨heap_setCell_same w' r 7 _ _ _ ((ho.block r h.lt (fun e => (h.rF r e).2.1 rfl)).trans h.cell), ownsRow_same hrow (fun b hk => oth b (hvr b hk).2.1), ownsRow_same h.lrow (fun b hk => (oth b (h.lF b hk).2).trans (ho.block b (World.ownsRow.lt h.lrow b hk).2 (fun e => (h.rF b e).2.2 hk))), X.same h.inv (by omega) (fun b hf => (oth b (fun e => h.nF (e ▸ hf))).trans (ho.block b (X.lt h.inv b hf) (fun e => (h.rF b e).1 hf))), h.br, h.nF, h.bF, hvr, h.lF, fun hl => (h.trow hl).same (fun b hk => (oth b (h.tF hl b hk).2.1).trans (ho.block b (h.tlt hl b hk).2 (h.tF hl b hk).2.2.1)), fun hl b hk => ⟨(h.tF hl b hk).1, (h.tF hl b hk).2.1, fun e => by
    rcases hv b e with e | e
    · exact (h.tF hl b hk).2.2.1 e
    · have := (h.tlt hl b hk).2; omega, (h.tF hl b hk).2.2.2⟩, h.hok, fun b o hg => ⟨((oth b (h.gst b o hg).2.1).trans (ho.block b (h.glt hg) (h.gst b o hg).2.2.2.1)).trans (h.gst b o hg).1, (h.gst b o hg).2.1, (h.gst b o hg).2.2.1, fun e => by
    rcases hv b e with e | e
    · exact (h.gst b o hg).2.2.2.1 e
    · have := h.glt hg; omega, (h.gst b o hg).2.2.2.2⟩⟩, (ho.below h.bz (fun b hb => (World.ownsRow.lt h.rrow b hb).1)).setCell (p := ⟨r, 7, none⟩) h.br _⟩
theorem RunJ.growC {v : Value} {rls' : List Rl} (h : RunJ X B w r x c lk hd gs tv rv lv rts rls st F) (ho : Off (fun b => lv.ownBlock = some b) w w') (hrow : w'.ownsRow B 64 3 v rls'.length (clCs rls')) (hv : ∀ b, v.ownBlock = some b → lv.ownBlock = some b ∨ w.heap.size ≤ b) : RunJ X B (w'.setCell ⟨r, 8, none⟩ v) r x c lk hd gs tv rv v rts rls' st F ∧ Below B w (w'.setCell ⟨r, 8, none⟩ v) := by
  have oth : ∀ b, b ≠ r → (w'.setCell ⟨r, 8, none⟩ v).heap[b]? = w'.heap[b]? := fun b hne => Below.heap_setCell _ _ _ _ hne
  have hz := ho.size
  have hsz : (w'.setCell ⟨r, 8, none⟩ v).heap.size = w'.heap.size := by simp only [World.setCell, Array.size_modify]
  have hr := h.lt
  have hvr : ∀ b, v.ownBlock = some b → ¬ F b ∧ b ≠ r ∧ rv.ownBlock ≠ some b := fun b hk => by
    rcases hv b hk with e | e
    · exact ⟨(h.lF b e).1, (h.lF b e).2, fun e2 => (h.rF b e2).2.2 e⟩
    · exact ⟨fun hf => by have := X.lt h.inv b hf; omega, by omega, fun e2 => by have := (World.ownsRow.lt h.rrow b e2).2; omega⟩
  refine ⟨⟨heap_setCell_same w' r 8 _ _ _ ((ho.block r h.lt (fun e => (h.lF r e).2 rfl)).trans h.cell), ownsRow_same h.rrow (fun b hk => (oth b (h.rF b hk).2.1).trans (ho.block b (World.ownsRow.lt h.rrow b hk).2 (fun e => (h.rF b hk).2.2 e))), ownsRow_same hrow (fun b hk => oth b (hvr b hk).2.1), X.same h.inv (by omega) (fun b hf => (oth b (fun e => h.nF (e ▸ hf))).trans (ho.block b (X.lt h.inv b hf) (fun e => (h.lF b e).1 hf))), h.br, h.nF, h.bF, fun b hk => ⟨(h.rF b hk).1, (h.rF b hk).2.1, fun e => (hvr b e).2.2 hk⟩, fun b hk => ⟨(hvr b hk).1, (hvr b hk).2.1⟩, fun hl => (h.trow hl).same (fun b hk => (oth b (h.tF hl b hk).2.1).trans (ho.block b (h.tlt hl b hk).2 (h.tF hl b hk).2.2.2)), fun hl b hk => ⟨(h.tF hl b hk).1, (h.tF hl b hk).2.1, (h.tF hl b hk).2.2.1, fun e => by
    rcases hv b e with e | e
    · exact (h.tF hl b hk).2.2.2 e
    · have := (h.tlt hl b hk).2; omega⟩, h.hok, fun b o hg => ⟨((oth b (h.gst b o hg).2.1).trans (ho.block b (h.glt hg) (h.gst b o hg).2.2.2.2)).trans (h.gst b o hg).1, (h.gst b o hg).2.1, (h.gst b o hg).2.2.1, (h.gst b o hg).2.2.2.1, fun e => by
    rcases hv b e with e | e
    · exact (h.gst b o hg).2.2.2.2 e
    · have := h.glt hg; omega⟩⟩, (ho.below h.bz (fun b hb => (World.ownsRow.lt h.lrow b hb).1)).setCell (p := ⟨r, 8, none⟩) h.br _⟩
end

theorem RunJ.rowC {X : XGate} {B : Nat} {w : World} {r x : Nat} {c : Cf} {lk : Bool} {hd : Hd} {gs : Nat → Option Obj} {tv : Tb} {rv : Value} {rts : List Rt} {rls : List Rl} {st : Gs} {F : Nat → Prop} {lo : Option Addr} {lc : Nat} (h : RunJ X B w r x c lk hd gs tv rv (.slice lo rls.length lc) rts rls st F) (k : Nat) (hk : k < rls.length) : ∃ rk, lo = some ⟨rk, 0, none⟩ ∧ rk < w.heap.size ∧ w.frozen? ⟨rk, k * 3 + 2, none⟩ = false ∧ (∃ u, w.cell? ⟨rk, k * 3 + 2, none⟩ = some u) ∧ ∀ ac, RunJ X B (w.setCell ⟨rk, k * 3 + 2, none⟩ (.int .i64 ac)) r x c lk hd gs tv rv (.slice lo rls.length lc) rts (rls.set k ⟨rls[k].tx, rls[k].pe, ac⟩) st F ∧ Below B w (w.setCell ⟨rk, k * 3 + 2, none⟩ (.int .i64 ac)) := by
  have hin := ClIn.of h.lrow
  rcases h.lrow.2 with ⟨_, h0⟩ | ⟨rk, cc, cur, hv, _, hh, _⟩
  · omega
  · simp only [Value.slice.injEq, true_and] at hv
    obtain ⟨rfl, rfl⟩ := hv
    refine ⟨rk, rfl, lt_of_block hh, frozen_of_row w rk _ cur _ hh, ?_, fun ac => ?_⟩
    · obtain ⟨b, off, e, _, _, _, c2⟩ := hin k hk
      simp only [Option.some.injEq, Addr.mk.injEq, and_true] at e
      obtain ⟨rfl, rfl⟩ := e
      rw [Nat.zero_add] at c2
      exact ⟨_, c2⟩
    · refine h.pokeC (Off.setCell (F := fun b => (Value.slice (some ⟨rk, 0, none⟩) rls.length lc).ownBlock = some b) (Off.refl _ w) (a := ⟨rk, k * 3 + 2, none⟩) (.inl rfl) _) ?_
      rw [List.length_set, clCs_setAc]
      exact ownsRow_store h.lrow _ _
theorem RunJ.rowR {X : XGate} {B : Nat} {w : World} {r x : Nat} {c : Cf} {lk : Bool} {hd : Hd} {gs : Nat → Option Obj} {tv : Tb} {lv : Value} {rts : List Rt} {rls : List Rl} {st : Gs} {F : Nat → Prop} {lo : Option Addr} {lc : Nat} (h : RunJ X B w r x c lk hd gs tv (.slice lo rts.length lc) lv rts rls st F) (k : Nat) (hk : k < rts.length) : ∃ rk, lo = some ⟨rk, 0, none⟩ ∧ rk < w.heap.size ∧ w.frozen? ⟨rk, k * 4 + 3, none⟩ = false ∧ (∃ u, w.cell? ⟨rk, k * 4 + 3, none⟩ = some u) ∧ ∀ pa, RunJ X B (w.setCell ⟨rk, k * 4 + 3, none⟩ (.int .i64 pa)) r x c lk hd gs tv (.slice lo rts.length lc) lv (rts.set k ⟨rts[k].pe, rts[k].bt, rts[k].ln, pa⟩) rls st F ∧ Below B w (w.setCell ⟨rk, k * 4 + 3, none⟩ (.int .i64 pa)) := by
  have hin := rtIn_of h.rrow
  rcases h.rrow.2 with ⟨_, h0⟩ | ⟨rk, cc, cur, hv, _, hh, _⟩
  · omega
  · simp only [Value.slice.injEq, true_and] at hv
    obtain ⟨rfl, rfl⟩ := hv
    refine ⟨rk, rfl, lt_of_block hh, frozen_of_row w rk _ cur _ hh, ?_, fun pa => ?_⟩
    · obtain ⟨b, off, e, _, _, _, _, c3⟩ := hin k hk
      simp only [Option.some.injEq, Addr.mk.injEq, and_true] at e
      obtain ⟨rfl, rfl⟩ := e
      rw [Nat.zero_add] at c3
      exact ⟨_, c3⟩
    · refine h.pokeR (Off.setCell (F := fun b => (Value.slice (some ⟨rk, 0, none⟩) rts.length lc).ownBlock = some b) (Off.refl _ w) (a := ⟨rk, k * 4 + 3, none⟩) (.inl rfl) _) ?_
      rw [List.length_set, rtCs_setPa]
      exact ownsRow_store h.rrow _ _

/-- What the law's account has behind a rule that is announced. -/
def saS (rls : List Rl) (pe : Int) (tx : ByteArray) (ac : Int) : List Rl := if plC rls pe tx < rls.length then rls.set (plC rls pe tx) ⟨tx, pe, ac⟩ else if 24 ≤ rls.length then rls else rls ++ [⟨tx, pe, ac⟩]
theorem infoSRl : (Tryz.prog.info? 64).map (fun i => (i.zero, i.size, i.bytes)) = some (some (.agg #[.int .i64 0, .string ⟨#[]⟩, .int .i64 0]), 3, 32) := by kernel_rfl

set_option maxHeartbeats 3200000 in
theorem say_any (X : XGate) {lk : Bool} (HTD : Hid (ToldOK X lk)) {B : Nat} {w : World} {r x : Nat} {c : Cf} {hd : Hd} {gs : Nat → Option Obj} {rts : List Rt} {rls : List Rl} (h : RunI X B w r x c lk hd gs rts rls) (pe : Int) (tx : ByteArray) (ac : Int) (h1 : peOK pe = true) (h2 : (decS tx).isSome = true) (h3 : paOK ac = true) (hs : tx.size ≤ 140737488351232) :
    Calls Tryz.prog 22 #[.pointer (some ⟨r, 0, none⟩), .int .i64 pe, .string tx, .int .i64 ac] w fun e w' => e = .returned (.tuple #[]) ∧ RunI X B w' r x c lk hd gs rts (saS rls pe tx ac) ∧ Below B w w' := by
  obtain ⟨i0, hi, hz0, hz1, hz2⟩ := info_parts infoSRl
  obtain ⟨tv, rv, lv, st, F, hj, hsim, htab⟩ := h.ex
  have HTT : Hid (lk = true → tv.T = tabS st) := fun hl => (htab hl).trans (hsim.tabS (X.ok hj.inv).tel).symm
  clear htab
  have HJ : Hid (RunJ X B w r x c lk hd gs tv rv lv rts rls st F) := hj
  have HSM : Hid (Sim st ⟨c, rts, rls⟩) := hsim
  have hok : GsOK ⟨c, rts, rls⟩ := GsOK.sim hsim.symm (X.ok hj.inv)
  have HOK : Hid (GsOK ⟨c, rts, rls⟩) := hok
  have h24 : rls.length ≤ 24 := hok.l24
  obtain ⟨ro, rc, lo, lc, hrv, hlv, c0, c7, c8, c9, c10, hfz, hrin, hcin⟩ := hj.read
  have HC : Hid (ClIn w lo rls) := hcin
  have hrz := hj.lt
  have HAD : Hid (Calls Tryz.prog 46 #[.pointer (some ⟨x, 0, none⟩), .int .i64 pe, .string tx, .int .i64 ac] w fun e w' => XPostN X.Inv F w x st (adE st pe tx ac) (adS st pe tx ac) e w') := by
    have b1 := peOK_bd h1
    have b3 := paOK_bd h3
    have := X.addN pe tx ac hj.inv ⟨by omega, by omega⟩ ⟨by omega, by omega⟩ hs
    unfold ptrV at this
    exact this
  have hE : adE st pe tx ac = adE ⟨c, rts, rls⟩ pe tx ac := hsim.adE pe tx ac
  have f8 := hfz 8
  subst hlv
  clear h hj hsim hrin hcin c7 c9 c10 hfz hrv hs
  have HST : Hid (∀ i (hi : i < rls.length), atP (plC rls pe tx) (i + 1) = if rlNe pe tx rls[i] then atP (plC rls pe tx) i else (i : Int)) := fun i hi => atP_step (rlNe pe tx) (rl_once HOK.out pe tx) i hi
  go_enter Tryz.func22, Tryz.ntmps22
  go_wp2_with fail
  go_loopw [9, 10] (fun a y wr => ∃ i : Nat, y = .int .i64 i ∧ a = .int .i64 (atP (plC rls pe tx) i) ∧ i ≤ rls.length ∧ wr = w) (fun _ y _ => rls.length - (intOf y).toNat)
  case atStart => exact ⟨0, rfl, rfl, Nat.zero_le _, rfl⟩
  case round =>
    obtain ⟨i, rfl, rfl, hil, rfl⟩ := hrel
    by_cases hlt : i < rls.length
    · obtain ⟨rk, ro', rfl, bz2, d0, d1, d2⟩ := HC.out i hlt
      have HS := HST.out i hlt
      generalize rls[i] = q at *
      obtain ⟨qtx, qpe, qac⟩ := q
      simp only [] at d0 d1 d2
      by_cases e1 : qpe = pe
      · subst e1
        have q0 : (qpe == qpe) = true := by simp
        by_cases e2 : qtx = tx
        · subst e2
          have HN : Hid (atP (plC rls qpe qtx) (i + 1) = (i : Int)) := by
            show _ = _
            rw [HS]
            have : rlNe qpe qtx ⟨qtx, qpe, qac⟩ = false := by
              cases hh : rlNe qpe qtx ⟨qtx, qpe, qac⟩
              · rfl
              · exact absurd ⟨rfl, rfl⟩ ((rlNe_iff _ _ _).1 hh)
            rw [this]
            rfl
          clear HS
          go_wp2_with fail
          go_roundw
          case rel => exact ⟨i + 1, by go_num, by rw [HN.out], by omega, by trivial⟩
          case measure => simp [intOf]; omega
        · have q1 := text_ne e2
          have HN : Hid (atP (plC rls qpe tx) (i + 1) = atP (plC rls qpe tx) i) := by
            show _ = _
            rw [HS, (rlNe_iff qpe tx ⟨qtx, qpe, qac⟩).2 (fun hh => e2 hh.2)]
            rfl
          clear HS e2
          go_wp2_with fail
          go_roundw
          case rel => exact ⟨i + 1, by go_num, by rw [HN.out], by omega, by trivial⟩
          case measure => simp [intOf]; omega
      · have q0 : (qpe == pe) = false := by simpa using e1
        have HN : Hid (atP (plC rls pe tx) (i + 1) = atP (plC rls pe tx) i) := by
          show _ = _
          rw [HS, (rlNe_iff pe tx ⟨qtx, qpe, qac⟩).2 (fun hh => e1 hh.1)]
          rfl
        clear HS e1
        go_wp2_with fail
        go_roundw
        case rel => exact ⟨i + 1, by go_num, by rw [HN.out], by omega, by trivial⟩
        case measure => simp [intOf]; omega
    · obtain rfl : i = rls.length := by omega
      by_cases hpl : plC rls pe tx < rls.length
      · have hx := adE_at HOK.out h1 h2 h3 hpl
        have hat := plC_at hpl
        have HE0 : Hid (adE st pe tx ac = 0) := by show _ = _; rw [hE]; exact hx.1
        have HSS : Hid (Sim ⟨c, rts, rls.set (plC rls pe tx) ⟨tx, pe, ac⟩⟩ (adS ⟨c, rts, rls⟩ pe tx ac)) := hx.2
        have HSA : Hid (saS rls pe tx ac = rls.set (plC rls pe tx) ⟨tx, pe, ac⟩) := by show _ = _; unfold saS; rw [if_pos hpl]
        have HAT : Hid (atP (plC rls pe tx) rls.length = (plC rls pe tx : Int)) := by show _ = _; unfold atP; rw [if_pos hpl]
        have HAD0 := HAD.out
        rw [HE0.out] at HAD0
        have HADC : Hid (Calls Tryz.prog 46 #[.pointer (some ⟨x, 0, none⟩), .int .i64 pe, .string tx, .int .i64 ac] wr fun e w' => XPostN X.Inv F wr x st 0 (adS st pe tx ac) e w') := HAD0
        obtain ⟨rk, rfl, hrkz, _, _, _⟩ := HJ.out.rowC _ hpl
        have HATS : Hid (rls.set (plC rls pe tx) ⟨(rls[plC rls pe tx]'hpl).tx, (rls[plC rls pe tx]'hpl).pe, ac⟩ = rls.set (plC rls pe tx) ⟨tx, pe, ac⟩) := by show _ = _; rw [hat.1, hat.2]
        have HK : Hid (plC rls pe tx < rls.length) := hpl
        rw [HAT.out]
        have g0 : decide (((plC rls pe tx : Nat) : Int) < 0) = false := by simp
        clear hx hat HST HAT HE0 HAD HAD0 hE h1 h2 h3
        have hkI : ((plC rls pe tx : Nat) : Int) < (rls.length : Int) := by omega
        go_wp2_with (first
          | (go_at_call 46; refine HADC.out.mono ?_; rintro e w3 ⟨a, n, cc, F', st', rfl, q1, q2, q3, q4, q5⟩; obtain ⟨j3, b3⟩ := HJ.out.call q5 q3 q4)
          | (go_at_call 45; refine (told_yes HTD j3 HTT.out a n cc q1).mono ?_; rintro e w4 ⟨rfl, tv', j4, t4, b4, o4⟩; have y8 := cell_of_row w4 r 8 _ _ _ j4.cell; simp only [runC] at y8; obtain ⟨rk', erk, _, yf, ⟨u, yu⟩, hset⟩ := j4.rowC _ HK.out; simp only [Option.some.injEq, Addr.mk.injEq, and_true] at erk; subst erk))
        go_returns
        have hfin := hset ac
        refine ⟨rfl, RunI.fin (rv := rv) (lv := .slice (some ⟨rk, 0, none⟩) rls.length lc) (tv := tv') (st := st') (F := F') ?_ ?_ t4.1 q2, (b3.trans b4).trans hfin.2⟩
        · rw [HSA.out, ← HATS.out]
          exact hfin.1
        · rw [HSA.out]
          exact q2.trans ((HSM.out.adS pe tx ac).trans HSS.out.symm)
      · obtain ⟨hxe, hxs⟩ := adE_new (st := ⟨c, rts, rls⟩) h1 h2 h3 hpl
        have HAT : Hid (atP (plC rls pe tx) rls.length = -1) := by show _ = _; unfold atP; rw [if_neg hpl]
        rw [HAT.out]
        by_cases hfull : 24 ≤ rls.length
        · have HE0 : adE st pe tx ac = 10 := by rw [hE]; exact hxe.trans (if_pos hfull)
          have HS0 : Hid (adS st pe tx ac = st) := adS_nz (by rw [HE0]; decide)
          have HSA : Hid (saS rls pe tx ac = rls) := by show _ = _; unfold saS; rw [if_neg hpl, if_pos hfull]
          have HAD0 := HAD.out
          rw [HE0] at HAD0
          have HADC : Hid (Calls Tryz.prog 46 #[.pointer (some ⟨x, 0, none⟩), .int .i64 pe, .string tx, .int .i64 ac] wr fun e w' => XPostN X.Inv F wr x st 10 (adS st pe tx ac) e w') := HAD0
          clear hxe hxs HST HAT HE0 HAD HAD0 hE h1 h2 h3 hpl
          go_wp2_with (first
            | (go_at_call 46; refine HADC.out.mono ?_; rintro e w3 ⟨a, n, cc, F', st', rfl, q1, q2, q3, q4, q5⟩; obtain ⟨rfl, qT⟩ := q1.1 (by decide); clear q1; obtain ⟨j3, b3⟩ := HJ.out.call q5 q3 q4)
            | (go_at_call 45; refine (told_no HTD j3 (fun hl => (HTT.out hl).trans qT.symm) a cc 10 (by decide)).mono ?_; rintro e w4 ⟨rfl, tv', j4, t4, b4, o4⟩))
          go_returns
          refine ⟨rfl, RunI.fin (rv := rv) (lv := .slice lo rls.length lc) (tv := tv') (st := st') (F := F') ?_ ?_ t4.1 q2, b3.trans b4⟩
          · rw [HSA.out]; exact j4
          · rw [HSA.out]
            rw [HS0.out] at q2
            exact q2.trans HSM.out
        · have HE0 : adE st pe tx ac = 0 := by rw [hE]; exact hxe.trans (if_neg hfull)
          have g6 : rls.length < 24 := by omega
          have HSA : Hid (saS rls pe tx ac = rls ++ [⟨tx, pe, ac⟩]) := by show _ = _; unfold saS; rw [if_neg hpl, if_neg hfull]
          have HSS : Hid (Sim ⟨c, rts, rls ++ [⟨tx, pe, ac⟩]⟩ (adS ⟨c, rts, rls⟩ pe tx ac)) := by
            have e0 : adE ⟨c, rts, rls⟩ pe tx ac = 0 := hxe.trans (if_neg hfull)
            unfold adS
            rw [if_pos e0, none_filter _ _ hpl]
            exact Sim.refl _
          have HAD0 := HAD.out
          rw [HE0] at HAD0
          have HADC : Hid (Calls Tryz.prog 46 #[.pointer (some ⟨x, 0, none⟩), .int .i64 pe, .string tx, .int .i64 ac] wr fun e w' => XPostN X.Inv F wr x st 0 (adS st pe tx ac) e w') := HAD0
          clear hxe hxs HST HAT HE0 HAD HAD0 hE h1 h2 h3 hpl hfull
          go_wp2_with (first
            | (go_at_call 46; refine HADC.out.mono ?_; rintro e w3 ⟨a, n, cc, F', st', rfl, q1, q2, q3, q4, q5⟩; obtain ⟨j3, b3⟩ := HJ.out.call q5 q3 q4)
            | (go_at_call 45; refine (told_yes HTD j3 HTT.out a n cc q1).mono ?_; rintro e w4 ⟨rfl, tv', j4, t4, b4, o4⟩; have y8 := cell_of_row w4 r 8 _ _ _ j4.cell; simp only [runC] at y8; have J4 : Hid (RunJ X B w4 r x c lk hd gs tv' rv (.slice lo rls.length lc) rts rls st' F') := j4; have hr4 := j4.lt; have nlo : some r ≠ (Value.slice lo rls.length lc).ownBlock := fun e => (j4.lF r e.symm).2 rfl; clear j4)
            | (at_builtin; refine wpList_append_lies _ rfl _ _ 31 rfl B 64 i0 _ 3 32 Tryz.underlying31 hi hz0 hz1 hz2 rfl (by decide) (.slice lo rls.length lc) rls.length (clCs rls) rfl (J4.out.lrow.alloc _) ⟨w4.heap.size, 0, none⟩ 1 1 (clC ⟨tx, pe, ac⟩) rfl rfl (World.news_of_block (heap_alloc_new w4 _)) (clC_one _) (by decide) (by unfold maxLen; omega) (by omega) (by have := J4.out.bz; simp; omega) _ rfl ?_; intro g' cp w8 hown hgrow hat hlt8; have hb8 : w8.heap[r]? = w4.heap[r]? := (hgrow.block r (by simp; omega) nlo).trans ((below_alloc w4 _).block r hr4); have z8 := cell_of_row w8 r 8 _ _ _ (hb8.trans J4.out.cell); have zf := frozen_of_row w8 r 8 _ _ (hb8.trans J4.out.cell); simp only [runC] at z8))
          go_returns
          have hsz := hgrow.size
          simp only [World.size_alloc] at hsz
          have hall : ∀ b, b < w4.heap.size → some b ≠ (Value.slice lo rls.length lc).ownBlock → w8.heap[b]? = w4.heap[b]? := fun b hb hne => (hgrow.block b (by simp; omega) hne).trans ((below_alloc w4 _).block b hb)
          have hoff : Off (fun b => (Value.slice lo rls.length lc).ownBlock = some b) w4 w8 := ⟨hgrow.os, hgrow.tape, hgrow.output, by omega, fun b hb hn => hall b hb (fun e => hn e.symm)⟩
          have hrow' : w8.ownsRow B 64 3 (.slice (some ⟨g', 0, none⟩) (rls.length + 1) cp) (rls ++ [(⟨tx, pe, ac⟩ : Rl)]).length (clCs (rls ++ [(⟨tx, pe, ac⟩ : Rl)])) := by
            have e : clCs (rls ++ [(⟨tx, pe, ac⟩ : Rl)]) = clCs rls ++ clC ⟨tx, pe, ac⟩ := by simp [clCs]
            rw [e, List.length_append]; exact hown
          have hfin := J4.out.growC hoff hrow' (fun b hb => by
            have e : g' = b := by simpa [Value.ownBlock] using hb
            subst e
            rcases hat with hat | hat
            · exact .inl hat
            · simp at hat; exact .inr (by omega))
          refine ⟨rfl, RunI.fin (rv := rv) (lv := .slice (some ⟨g', 0, none⟩) (rls.length + 1) cp) (tv := tv') (st := st') (F := F') ?_ ?_ t4.1 q2, (b3.trans b4).trans hfin.2⟩
          · rw [HSA.out]; exact hfin.1
          · rw [HSA.out]
            exact q2.trans ((HSM.out.adS pe tx ac).trans HSS.out.symm)
end Go.Proofs.YtgkiknfpcbcnnabGreat
