import Derived.Test.YtdepfhkhkocehabLbg
import Derived.Handy
namespace Go.Proofs.Ytdepfhkhkocehab
open Go.RowKit
set_option maxRecDepth 20000

/-- A gate that is played (sluicekeep's run), in block r, and what must be in it; all its blocks from B on. -/
def runC (x : Nat) (c : Cf) (rv lv : Value) (lk : Bool) (hd : Hd) (tv : Value) : Array Value := #[.pointer (some ⟨x, 0, none⟩), .int .i64 c.cp, .int .i64 c.bu, .int .i64 c.n0, .int .i64 c.n1, .int .i64 c.n2, .int .i64 c.n3, rv, lv, .bool true, .bool lk, .int .i64 hd.ds, .int .i64 hd.sr, .int .i64 hd.pr, .int .i64 hd.po, .int .i64 hd.fl, .bool hd.la, tv]
structure RunJ (X : XGate) (B : Nat) (w : World) (r x : Nat) (c : Cf) (lk : Bool) (hd : Hd) (tv : Value) (rv lv : Value) (rts : List Rt) (rls : List Rl) (st : Gs) (F : Nat → Prop) : Prop where
  cell : w.heap[r]? = some (.cells (runC x c rv lv lk hd tv) 36 (0, 0))
  rrow : w.ownsRow B 69 4 rv rts.length (rtCs rts)
  lrow : w.ownsRow B 54 3 lv rls.length (clCs rls)
  inv : X.Inv w x st F
  br : B ≤ r
  nF : ¬ F r
  bF : ∀ b, F b → B ≤ b
  rF : ∀ b, rv.ownBlock = some b → ¬ F b ∧ b ≠ r ∧ lv.ownBlock ≠ some b
  lF : ∀ b, lv.ownBlock = some b → ¬ F b ∧ b ≠ r
structure RunI (X : XGate) (B : Nat) (w : World) (r x : Nat) (c : Cf) (lk : Bool) (hd : Hd) (tv : Value) (rts : List Rt) (rls : List Rl) : Prop where
  ex : ∃ rv lv st F, RunJ X B w r x c lk hd tv rv lv rts rls st F ∧ Sim st ⟨c, rts, rls⟩

section
variable {X : XGate} {B : Nat} {w w' : World} {r x : Nat} {c : Cf} {lk : Bool} {hd : Hd} {tv rv lv : Value} {rts : List Rt} {rls : List Rl} {st : Gs} {F : Nat → Prop}

theorem RunJ.lt (h : RunJ X B w r x c lk hd tv rv lv rts rls st F) : r < w.heap.size := lt_of_block h.cell
theorem RunJ.bz (h : RunJ X B w r x c lk hd tv rv lv rts rls st F) : B ≤ w.heap.size := by have := h.br; have := h.lt; omega
theorem RunJ.below (h : RunJ X B w r x c lk hd tv rv lv rts rls st F) (hb : Below w.heap.size w w') : RunJ X B w' r x c lk hd tv rv lv rts rls st F :=
  ⟨(hb.block r h.lt).trans h.cell, ownsRow_same h.rrow (fun b hk => hb.block b (World.ownsRow.lt h.rrow b hk).2), ownsRow_same h.lrow (fun b hk => hb.block b (World.ownsRow.lt h.lrow b hk).2), X.same h.inv hb.size (fun b hf => hb.block b (X.lt h.inv b hf)), h.br, h.nF, h.bF, h.rF, h.lF⟩
/-- Behind a call of the gate's. -/
theorem RunJ.call {st' : Gs} {F' : Nat → Prop} (h : RunJ X B w r x c lk hd tv rv lv rts rls st F) (ho : Off F w w') (hi : X.Inv w' x st' F') (hF : ∀ b, F' b → F b ∨ w.heap.size ≤ b) : RunJ X B w' r x c lk hd tv rv lv rts rls st' F' ∧ Below B w w' := by
  have hz := ho.size
  have hr := h.lt
  have hb := h.br
  have old : ∀ b, b < w.heap.size → F' b → F b := fun b hk hf => by
    rcases hF b hf with hf | hf
    · exact hf
    · omega
  refine ⟨⟨(ho.block r hr h.nF).trans h.cell, ownsRow_same h.rrow (fun b hk => ho.block b (World.ownsRow.lt h.rrow b hk).2 (h.rF b hk).1), ownsRow_same h.lrow (fun b hk => ho.block b (World.ownsRow.lt h.lrow b hk).2 (h.lF b hk).1), hi, h.br, fun hf => h.nF (old r hr hf), ?_, ?_, ?_⟩, ho.below (by omega) h.bF⟩
  · intro b hf
    rcases hF b hf with hf | hf
    · exact h.bF b hf
    · omega
  · intro b hk
    exact ⟨fun hf => (h.rF b hk).1 (old b (World.ownsRow.lt h.rrow b hk).2 hf), (h.rF b hk).2⟩
  · intro b hk
    exact ⟨fun hf => (h.lF b hk).1 (old b (World.ownsRow.lt h.lrow b hk).2 hf), (h.lF b hk).2⟩
/-- The mark 'ok', written anew. -/
theorem RunJ.ok9 (h : RunJ X B w r x c lk hd tv rv lv rts rls st F) : RunJ X B (w.setCell ⟨r, 9, none⟩ (.bool true)) r x c lk hd tv rv lv rts rls st F := by
  have oth : ∀ b, b ≠ r → (w.setCell ⟨r, 9, none⟩ (.bool true)).heap[b]? = w.heap[b]? := fun b hne => Below.heap_setCell _ _ _ _ hne
  have hsz : (w.setCell ⟨r, 9, none⟩ (.bool true)).heap.size = w.heap.size := by simp only [World.setCell, Array.size_modify]
  exact ⟨heap_setCell_same w r 9 _ _ _ h.cell, ownsRow_same h.rrow (fun b hk => oth b (h.rF b hk).2.1), ownsRow_same h.lrow (fun b hk => oth b (h.lF b hk).2), X.same h.inv (by omega) (fun b hf => oth b (fun e => h.nF (e ▸ hf))), h.br, h.nF, h.bF, h.rF, h.lF⟩
/-- Another row of routes, of rules, in a fresh block. -/
theorem RunJ.setR {v : Value} {rts' : List Rt} (h : RunJ X B w r x c lk hd tv rv lv rts rls st F) (hrow : w.ownsRow B 69 4 v rts'.length (rtCs rts')) (hv : ∀ b, v.ownBlock = some b → ¬ F b ∧ b ≠ r ∧ lv.ownBlock ≠ some b) : RunJ X B (w.setCell ⟨r, 7, none⟩ v) r x c lk hd tv v lv rts' rls st F := by
  have oth : ∀ b, b ≠ r → (w.setCell ⟨r, 7, none⟩ v).heap[b]? = w.heap[b]? := fun b hne => Below.heap_setCell _ _ _ _ hne
  have hsz : (w.setCell ⟨r, 7, none⟩ v).heap.size = w.heap.size := by simp only [World.setCell, Array.size_modify]
  exact ⟨heap_setCell_same w r 7 _ _ _ h.cell, ownsRow_same hrow (fun b hk => oth b (hv b hk).2.1), ownsRow_same h.lrow (fun b hk => oth b (h.lF b hk).2), X.same h.inv (by omega) (fun b hf => oth b (fun e => h.nF (e ▸ hf))), h.br, h.nF, h.bF, hv, h.lF⟩
theorem RunJ.setC {v : Value} {rls' : List Rl} (h : RunJ X B w r x c lk hd tv rv lv rts rls st F) (hrow : w.ownsRow B 54 3 v rls'.length (clCs rls')) (hv : ∀ b, v.ownBlock = some b → ¬ F b ∧ b ≠ r ∧ rv.ownBlock ≠ some b) : RunJ X B (w.setCell ⟨r, 8, none⟩ v) r x c lk hd tv rv v rts rls' st F := by
  have oth : ∀ b, b ≠ r → (w.setCell ⟨r, 8, none⟩ v).heap[b]? = w.heap[b]? := fun b hne => Below.heap_setCell _ _ _ _ hne
  have hsz : (w.setCell ⟨r, 8, none⟩ v).heap.size = w.heap.size := by simp only [World.setCell, Array.size_modify]
  exact ⟨heap_setCell_same w r 8 _ _ _ h.cell, ownsRow_same h.rrow (fun b hk => oth b (h.rF b hk).2.1), ownsRow_same hrow (fun b hk => oth b (hv b hk).2.1), X.same h.inv (by omega) (fun b hf => oth b (fun e => h.nF (e ▸ hf))), h.br, h.nF, h.bF, fun b hk => ⟨(h.rF b hk).1, (h.rF b hk).2.1, fun e => (hv b e).2.2 hk⟩, fun b hk => ⟨(hv b hk).1, (hv b hk).2.1⟩⟩
/-- What is read of it. -/
theorem RunJ.read (h : RunJ X B w r x c lk hd tv rv lv rts rls st F) : ∃ ro rc lo lc, rv = .slice ro rts.length rc ∧ lv = .slice lo rls.length lc ∧ w.cell? ⟨r, 0, none⟩ = some (.pointer (some ⟨x, 0, none⟩)) ∧ w.cell? ⟨r, 7, none⟩ = some (.slice ro rts.length rc) ∧ w.cell? ⟨r, 8, none⟩ = some (.slice lo rls.length lc) ∧ w.cell? ⟨r, 9, none⟩ = some (.bool true) ∧ w.cell? ⟨r, 10, none⟩ = some (.bool lk) ∧ (∀ j, w.frozen? ⟨r, j, none⟩ = false) ∧ RtIn w ro rts ∧ ClIn w lo rls := by
  obtain ⟨ro, rc, rfl⟩ := ownsRow_shape h.rrow
  obtain ⟨lo, lc, rfl⟩ := ownsRow_shape h.lrow
  have c : ∀ j, w.cell? ⟨r, j, none⟩ = _ := fun j => cell_of_row w r j _ _ _ h.cell
  exact ⟨ro, rc, lo, lc, rfl, rfl, c 0, c 7, c 8, c 9, c 10, fun j => frozen_of_row _ _ _ _ _ h.cell, rtIn_of h.rrow, ClIn.of h.lrow⟩
end

set_option maxHeartbeats 800000 in
theorem told_any2 (X : XGate) {B : Nat} {w : World} {r x : Nat} {c : Cf} {hd : Hd} {tv rv lv : Value} {rts : List Rt} {rls : List Rl} {st : Gs} {F : Nat → Prop} (h : RunJ X B w r x c false hd tv rv lv rts rls st F) (a : Option Addr) (n k : Nat) (er : Int) (hn : er ≠ 0 → n = 0) :
    Calls Try.prog 37 #[.pointer (some ⟨r, 0, none⟩), .slice a n k, .int .i64 er, .int .i64 er] w fun e w' => e = .returned (.bool (decide (er = 0))) ∧ RunJ X B w' r x c false hd tv rv lv rts rls st F ∧ Below B w w' ∧ Off (fun b => b = r) w w' := by
  have HH : Hid (RunJ X B w r x c false hd tv rv lv rts rls st F) := h
  have c9 := cell_of_row w r 9 _ _ _ h.cell
  have c10 := cell_of_row w r 10 _ _ _ h.cell
  have f9 := frozen_of_row w r 9 _ _ h.cell
  simp only [runC] at c9 c10
  clear h
  by_cases he : er = 0
  · subst he
    clear hn
    go_enter Try.func37, Try.ntmps37
    go_wp2_with fail
    go_ret
    exact ⟨rfl, HH.out, Below.refl _ _, Off.refl _ _⟩
  · obtain rfl := hn he
    have g1 : (er != 0) = true := by simpa using he
    have HD : Hid (decide (er = 0) = false) := by show _ = _; simpa using he
    clear hn he
    obtain ⟨D, hD⟩ : ∃ D, D = decide (er = 0) := ⟨_, rfl⟩
    rw [← hD] at HD ⊢
    clear hD
    go_enter Try.func37, Try.ntmps37
    go_wp2_with fail
    go_ret
    exact ⟨by rw [HD.out]; rfl, HH.out.ok9, (Below.refl B w).setCell (p := ⟨r, 9, none⟩) HH.out.br _, Off.setCell (F := fun b => b = r) (Off.refl _ w) (a := ⟨r, 9, none⟩) (.inl rfl) _⟩
theorem told_any (X : XGate) {B : Nat} {w : World} {r x : Nat} {c : Cf} {hd : Hd} {tv rv lv : Value} {rts : List Rt} {rls : List Rl} {st : Gs} {F : Nat → Prop} (h : RunJ X B w r x c false hd tv rv lv rts rls st F) (a : Option Addr) (n k : Nat) (er : Int) (hn : er ≠ 0 → n = 0) :
    Calls Try.prog 37 #[.pointer (some ⟨r, 0, none⟩), .slice a n k, .int .i64 er, .int .i64 er] w fun e w' => e = .returned (.bool (decide (er = 0))) ∧ RunJ X B w' r x c false hd tv rv lv rts rls st F ∧ Below B w w' :=
  (told_any2 X h a n k er hn).mono fun _ _ h' => ⟨h'.1, h'.2.1, h'.2.2.1⟩

/-- Where the law's account has the route, the rule: its place; -1: it has none among the first i. -/
def atP (p i : Nat) : Int := if p < i then (p : Int) else -1
theorem atP_step {α : Type} (f : α → Bool) {l : List α} (ho : l.Pairwise fun a b => ¬ (f a = false ∧ f b = false)) (i : Nat) (hi : i < l.length) : atP (l.findIdx fun a => !f a) (i + 1) = if f l[i] then atP (l.findIdx fun a => !f a) i else (i : Int) := by
  unfold atP
  cases hf : f l[i]
  · have h1 : l.findIdx (fun a => !f a) ≤ i := by
      apply Classical.byContradiction
      intro hh
      have := List.not_of_lt_findIdx (p := fun a => !f a) (xs := l) (i := i) (by omega)
      simp [hf] at this
    have h2 : ¬ l.findIdx (fun a => !f a) < i := by
      intro hh
      have hl : l.findIdx (fun a => !f a) < l.length := by omega
      have hg := List.findIdx_getElem (p := fun a => !f a) (xs := l) (w := hl)
      have := (List.pairwise_iff_getElem.1 ho) _ _ hl hi hh
      exact this ⟨by simpa using hg, hf⟩
    have : l.findIdx (fun a => !f a) = i := by omega
    rw [this]
    simp
  · have : l.findIdx (fun a => !f a) ≠ i := by
      intro hh
      have hg := List.findIdx_getElem (p := fun a => !f a) (xs := l) (w := by omega)
      simp only [hh, hf] at hg
      simp at hg
    simp only [if_true]
    by_cases hlt : l.findIdx (fun a => !f a) < i
    · rw [if_pos (by omega), if_pos hlt]
    · rw [if_neg (by omega), if_neg hlt]
end Go.Proofs.Ytdepfhkhkocehab
