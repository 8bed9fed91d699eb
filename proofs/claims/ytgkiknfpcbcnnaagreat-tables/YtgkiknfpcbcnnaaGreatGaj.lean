import Derived.Test.YtgkiknfpcbcnnaaGreatGai
namespace Go.Proofs.YtgkiknfpcbcnnaaGreat
open Go.RowKit
set_option maxRecDepth 20000
structure Pr where
  pb : Nat
  x : Nat
  y : Nat
  sx : Gs
  sy : Gs
  tv : Value
structure PrOK (X : XBase) (w : World) (lab : Nat → Nat) (i : Nat) (p : Pr) : Prop where
  cell : w.heap[p.pb]? = some (.cells #[ptrV p.x, ptrV p.y, p.tv] 55 (0, 0))
  lb : lab p.pb = 4 + 5 * i
  gx : ∃ F, X.Inv w p.x p.sx F ∧ ∀ b, F b → lab b = 5 + 5 * i
  gy : ∃ F, RGate w p.y p.sy F ∧ ∀ b, F b → lab b = 6 + 5 * i
  sim : Sim p.sx p.sy
theorem PrOK.same {X : XBase} {w w' : World} {lab lab' : Nat → Nat} {i : Nat} {p : Pr} (h : PrOK X w lab i p) (hz : w.heap.size ≤ w'.heap.size) (hl : ∀ b, b < w.heap.size → lab' b = lab b) (hs : ∀ b, b < w.heap.size → (lab b = 4 + 5 * i ∨ lab b = 5 + 5 * i ∨ lab b = 6 + 5 * i) → w'.heap[b]? = w.heap[b]?) : PrOK X w' lab' i p := by
  have hp := lt_of_block h.cell
  obtain ⟨F, f1, f2⟩ := h.gx
  obtain ⟨G, g1, g2⟩ := h.gy
  exact ⟨(hs _ hp (.inl h.lb)).trans h.cell, (hl _ hp).trans h.lb,
    ⟨F, X.same f1 hz (fun b hb => hs b (X.lt f1 b hb) (.inr (.inl (f2 b hb)))), fun b hb => (hl b (X.lt f1 b hb)).trans (f2 b hb)⟩,
    ⟨G, g1.same hz (fun b hb => hs b (g1.lt b hb) (.inr (.inr (g2 b hb)))), fun b hb => (hl b (g1.lt b hb)).trans (g2 b hb)⟩, h.sim⟩
structure LsOK (w : World) (lab : Nat → Nat) (so : Option Addr) (sc : Nat) (vals : List Value) : Prop where
  row : w.ownsRow 0 61 1 (.slice so vals.length sc) vals.length vals
  rl : ∀ b, (Value.slice so vals.length sc).ownBlock = some b → lab b = 2
  at_ : ∀ k (h : k < vals.length), SsAt w vals[k] k ∧ ∀ b, vals[k].ownBlock = some b → lab b = 3 + 5 * k
theorem SsAt.same {w w' : World} {v : Value} {k : Nat} (h : SsAt w v k) (hb : ∀ b, v.ownBlock = some b → w'.heap[b]? = w.heap[b]?) : SsAt w' v k := by
  rcases h with h | ⟨G, c, h1, h2, h3⟩
  · exact .inl h
  · exact .inr ⟨G, c, h1, h2, h3.same (hb G (by rw [h1]; rfl))⟩
theorem SsAt.lt {w : World} {v : Value} {k : Nat} (h : SsAt w v k) : ∀ b, v.ownBlock = some b → b < w.heap.size := by
  intro b hb
  rcases h with h | ⟨G, c, h1, h2, h3⟩
  · rw [h] at hb; simp [Value.ownBlock] at hb
  · rw [h1] at hb
    have : G = b := by simpa [Value.ownBlock] using hb
    subst this
    obtain ⟨cur, e, _⟩ := h3; exact lt_of_block e
theorem LsOK.same {w w' : World} {lab lab' : Nat → Nat} {so : Option Addr} {sc : Nat} {vals : List Value} (h : LsOK w lab so sc vals) (hl : ∀ b, b < w.heap.size → lab' b = lab b) (hs : ∀ b, b < w.heap.size → (lab b = 2 ∨ ∃ k, k < vals.length ∧ lab b = 3 + 5 * k) → w'.heap[b]? = w.heap[b]?) : LsOK w' lab' so sc vals := by
  refine ⟨ownsRow_same h.row (fun b hb => hs b (World.ownsRow.lt h.row b hb).2 (.inl (h.rl b hb))), fun b hb => (hl b (World.ownsRow.lt h.row b hb).2).trans (h.rl b hb), fun k hk => ?_⟩
  obtain ⟨h1, h2⟩ := h.at_ k hk
  exact ⟨h1.same (fun b hb => hs b (h1.lt b hb) (.inr ⟨k, hk, h2 b hb⟩)), fun b hb => (hl b (h1.lt b hb)).trans (h2 b hb)⟩
structure GtOK (X : XBase) (w : World) (lab : Nat → Nat) (ga : Option Addr) (gc : Nat) (ps : List Pr) : Prop where
  row : w.ownsRow 0 52 1 (.slice ga ps.length gc) ps.length (ps.map fun p => ptrV p.pb)
  rl : ∀ b, (Value.slice ga ps.length gc).ownBlock = some b → lab b = 1
  pr : ∀ i (h : i < ps.length), PrOK X w lab i ps[i]
structure LC (X : XBase) (w : World) (wl : Nat) (lab : Nat → Nat) (tb : Bool) (ev wv : Value) (ps : List Pr) (vals : List Value) : Prop where
  ex : ∃ ga gc so sc, w.heap[wl]? = some (.cells #[.slice ga ps.length gc, .bool tb, .slice so vals.length sc, ev, wv] 31 (0, 0)) ∧ GtOK X w lab ga gc ps ∧ LsOK w lab so sc vals
  l0 : lab wl = 0
theorem GtOK.same {X : XBase} {w w' : World} {lab lab' : Nat → Nat} {ga : Option Addr} {gc : Nat} {ps : List Pr} (h : GtOK X w lab ga gc ps) (hz : w.heap.size ≤ w'.heap.size) (hl : ∀ b, b < w.heap.size → lab' b = lab b) (hs : ∀ b, b < w.heap.size → (lab b = 1 ∨ ∃ k, k < ps.length ∧ (lab b = 4 + 5 * k ∨ lab b = 5 + 5 * k ∨ lab b = 6 + 5 * k)) → w'.heap[b]? = w.heap[b]?) : GtOK X w' lab' ga gc ps :=
  ⟨ownsRow_same h.row (fun b hb => hs b (World.ownsRow.lt h.row b hb).2 (.inl (h.rl b hb))), fun b hb => (hl b (World.ownsRow.lt h.row b hb).2).trans (h.rl b hb), fun i hi => (h.pr i hi).same hz hl (fun b hb hk => hs b hb (.inr ⟨i, hi, hk⟩))⟩
theorem LC.same {X : XBase} {w w' : World} {wl : Nat} {lab : Nat → Nat} {tb : Bool} {ev wv : Value} {ps : List Pr} {vals : List Value} (h : LC X w wl lab tb ev wv ps vals) (hb : Below w.heap.size w w') : LC X w' wl lab tb ev wv ps vals := by
  obtain ⟨ga, gc, so, sc, h1, h2, h3⟩ := h.ex
  exact ⟨⟨ga, gc, so, sc, (hb.block wl (lt_of_block h1)).trans h1, h2.same hb.size (fun _ _ => rfl) (fun b hk _ => hb.block b hk), h3.same (fun _ _ => rfl) (fun b hk _ => hb.block b hk)⟩, h.l0⟩
theorem GtOK.turn {X : XBase} {w w' : World} {lab lab' : Nat → Nat} {ga : Option Addr} {gc : Nat} {ps : List Pr} {i : Nat} (hi : i < ps.length) (h : GtOK X w lab ga gc ps) (q : Pr) (hq : q.pb = ps[i].pb) (hn : PrOK X w' lab' i q) (hz : w.heap.size ≤ w'.heap.size) (hl : ∀ b, b < w.heap.size → lab' b = lab b) (hs : ∀ b, b < w.heap.size → (lab b = 1 ∨ ∃ k, k ≠ i ∧ (lab b = 4 + 5 * k ∨ lab b = 5 + 5 * k ∨ lab b = 6 + 5 * k)) → w'.heap[b]? = w.heap[b]?) : GtOK X w' lab' ga gc (ps.set i q) := by
  have e : (ps.set i q).map (fun p => ptrV p.pb) = ps.map fun p => ptrV p.pb := by
    rw [List.map_set]
    apply List.ext_getElem (by simp)
    intro k h1 h2
    rw [List.getElem_set]
    split
    · rename_i hk; subst hk; rw [List.getElem_map, hq]
    · rfl
  refine ⟨?_, ?_, ?_⟩
  · rw [e, List.length_set]
    exact ownsRow_same h.row (fun b hb => hs b (World.ownsRow.lt h.row b hb).2 (.inl (h.rl b hb)))
  · rw [List.length_set]
    exact fun b hb => (hl b (World.ownsRow.lt h.row b hb).2).trans (h.rl b hb)
  · intro k hk
    rw [List.length_set] at hk
    rw [List.getElem_set]
    split
    · rename_i hki; subst hki; exact hn
    · rename_i hki
      exact (h.pr k hk).same hz hl (fun b hb hkk => hs b hb (.inr ⟨k, fun e => hki e.symm, hkk⟩))
end Go.Proofs.YtgkiknfpcbcnnaaGreat
namespace Go.Proofs.YtgkiknfpcbcnnaaGreat
open Go.RowKit
set_option maxRecDepth 20000
theorem keepStatuses_any (wl : Nat) (so : Option Addr) (k sc : Nat) (vals : List Value) (v : Value) (B : Nat) (L : List (Rl × Int)) (w : World) (cs : Array Value) (hW : w.heap[wl]? = some (.cells cs 31 (0, 0))) (h2 : cs[2]? = some (.slice so k sc)) (hrow : w.ownsRow 0 61 1 (.slice so k sc) k vals) (hv : TRow w B v L) (hvn : ∀ b, v.ownBlock = some b → b ≠ wl) (hk : (k + 1) * 24 ≤ 140737488355328) (hso : ∀ b, (Value.slice so k sc).ownBlock = some b → b ≠ wl ∧ v.ownBlock ≠ some b) :
    Calls Tryz.prog 37 #[ptrV wl, v] w fun e w' => e = .returned (.tuple #[]) ∧ ∃ v' so' sc', SsAt w' v' k ∧ (∀ b, v'.ownBlock = some b → v.ownBlock = some b) ∧ w'.heap[wl]? = some (.cells (cs.setIfInBounds 2 (.slice so' (k + 1) sc')) 31 (0, 0)) ∧ w'.ownsRow 0 61 1 (.slice so' (k + 1) sc') (k + 1) (vals ++ [v']) ∧ (∀ b, (Value.slice so' (k + 1) sc').ownBlock = some b → (Value.slice so k sc).ownBlock = some b ∨ w.heap.size ≤ b) ∧ Off (fun b => b = wl ∨ v.ownBlock = some b ∨ (Value.slice so k sc).ownBlock = some b) w w' := by
  rcases hv.2 with ⟨rfl, _⟩ | ⟨G, c, cur, rfl, _⟩
  · refine (keepStatuses_none wl so k sc vals w cs hW h2 hrow hk (fun b hb => (hso b hb).1)).mono ?_
    rintro e w' ⟨rfl, so', sc', e1, e2, e3, e4⟩
    exact ⟨rfl, .slice none 0 0, so', sc', .inl rfl, fun b hb => hb, e1, e2, e3, e4.mono (fun b hb => by rcases hb with hb | hb; exact .inl hb; exact .inr (.inr hb))⟩
  · obtain ⟨m1, m2, m3⟩ := MkT.start (k := k) hv
    refine (keepStatuses_some wl so k sc vals G _ c w cs hW h2 hrow m1 (hvn G rfl) m2 m3 hk (fun b hb => ⟨(hso b hb).1, fun e => (hso b hb).2 (by rw [e]; rfl)⟩)).mono ?_
    rintro e w' ⟨rfl, e0, so', sc', e1, e2, e3, e4⟩
    exact ⟨rfl, .slice (some ⟨G, 0, none⟩) c c, so', sc', .inr ⟨G, c, rfl, m2, e0⟩, fun b hb => hb, e1, e2, e3, e4.mono (fun b hb => by rcases hb with hb | hb | hb; exact .inl hb; exact .inr (.inl (by rw [hb]; rfl)); exact .inr (.inr hb))⟩
theorem TRow.same {w w' : World} {B : Nat} {v : Value} {L : List (Rl × Int)} (h : TRow w B v L) (hs : ∀ b, v.ownBlock = some b → w'.heap[b]? = w.heap[b]?) : TRow w' B v L := ownsRow_same h hs
theorem LC.told {X : XBase} {w w1 w3 w4 : World} {wl : Nat} {lab : Nat → Nat} {tb : Bool} {ev wv : Value} {ps : List Pr} {vals : List Value} {i : Nat} {ga so so' : Option Addr} {gc sc sc' : Nat} {F F' : Nat → Prop} {v v' : Value} {L : List (Rl × Int)}
    (h : LC X w wl lab tb ev wv ps vals) (hi : i < ps.length) (h1 : w.heap[wl]? = some (.cells #[.slice ga ps.length gc, .bool tb, .slice so vals.length sc, ev, wv] 31 (0, 0))) (h2 : GtOK X w lab ga gc ps) (h3 : LsOK w lab so sc vals)
    (f2 : ∀ b, F b → lab b = 5 + 5 * i) (t1 : TRow w1 w.heap.size v L) (i1 : X.Inv w1 ps[i].x ps[i].sx F') (k1 : ∀ b, F' b → F b ∨ w.heap.size ≤ b) (k2 : ∀ b, F' b → v.ownBlock ≠ some b) (o1 : Off F w w1) (b3 : Below w1.heap.size w1 w3)
    (s4 : SsAt w4 v' vals.length) (v4 : ∀ b, v'.ownBlock = some b → v.ownBlock = some b) (e4 : w4.heap[wl]? = some (.cells (#[.slice ga ps.length gc, .bool tb, .slice so vals.length sc, ev, wv].setIfInBounds 2 (.slice so' (vals.length + 1) sc')) 31 (0, 0))) (r4 : w4.ownsRow 0 61 1 (.slice so' (vals.length + 1) sc') (vals.length + 1) (vals ++ [v'])) (n4 : ∀ b, (Value.slice so' (vals.length + 1) sc').ownBlock = some b → (Value.slice so vals.length sc).ownBlock = some b ∨ w3.heap.size ≤ b) (o4 : Off (fun b => b = wl ∨ v.ownBlock = some b ∨ (Value.slice so vals.length sc).ownBlock = some b) w3 w4) :
    ∃ lab' v, LC X w4 wl lab' tb ev wv ps (vals ++ [v]) ∧ (∀ b, b < w.heap.size → lab' b = lab b) ∧ Off (fun b => lab b = 0 ∨ lab b = 2 ∨ lab b = 5 + 5 * i) w w4 := by
  have hz1 := o1.size
  have hz3 := b3.size
  have hz4 := o4.size
  have hwl := lt_of_block h1
  have hvb : ∀ b, v.ownBlock = some b → w.heap.size ≤ b ∧ b < w1.heap.size := fun b hb => World.ownsRow.lt t1 b hb
  have hsb : ∀ b, (Value.slice so vals.length sc).ownBlock = some b → lab b = 2 ∧ b < w.heap.size := fun b hb => ⟨h3.rl b hb, (World.ownsRow.lt h3.row b hb).2⟩
  have o3 : Off F w w3 := o1.then b3
  have HO : Off (fun b => lab b = 0 ∨ lab b = 2 ∨ lab b = 5 + 5 * i) w w4 := by
    refine Off.trans (o3.mono (fun b hb => .inr (.inr (f2 b hb)))) o4 (fun b hb => ?_)
    rcases hb with rfl | hb | hb
    · exact .inl (.inl h.l0)
    · exact .inr (hvb b hb).1
    · exact .inl (.inr (.inl (hsb b hb).1))
  refine ⟨fun b => if b < w.heap.size then lab b else if v.ownBlock = some b then 3 + 5 * vals.length else if (Value.slice so' (vals.length + 1) sc').ownBlock = some b then 2 else 5 + 5 * i, v', ?_, fun b hb => by simp only [if_pos hb], HO⟩
  have hl : ∀ b, b < w.heap.size → (fun b => if b < w.heap.size then lab b else if v.ownBlock = some b then 3 + 5 * vals.length else if (Value.slice so' (vals.length + 1) sc').ownBlock = some b then 2 else 5 + 5 * i) b = lab b := fun b hb => by simp only [if_pos hb]
  have hF : ∀ b, F' b → b < w1.heap.size := fun b hb => X.lt i1 b hb
  have hp := h2.pr i hi
  obtain ⟨G, g1, g2⟩ := hp.gy
  have hpb := lt_of_block hp.cell
  refine ⟨⟨ga, gc, so', sc', ?_, ?_, ?_, ?_, ?_⟩, (hl wl hwl).trans h.l0⟩
  · rw [List.length_append]; exact e4
  · have hn : PrOK X w4 (fun b => if b < w.heap.size then lab b else if v.ownBlock = some b then 3 + 5 * vals.length else if (Value.slice so' (vals.length + 1) sc').ownBlock = some b then 2 else 5 + 5 * i) i ps[i] := by
      refine ⟨?_, (hl _ hpb).trans hp.lb, ⟨F', ?_, ?_⟩, ⟨G, ?_, ?_⟩, hp.sim⟩
      · exact (HO.block _ hpb (by have := hp.lb; omega)).trans hp.cell
      · refine X.same i1 (by omega) (fun b hb => ?_)
        refine (o4.block b (by have := hF b hb; omega) ?_).trans (b3.block b (hF b hb))
        rintro (rfl | hbv | hbs)
        · rcases k1 _ hb with hf | hf
          · have := f2 _ hf; have := h.l0; omega
          · omega
        · exact k2 b hb hbv
        · have := hsb b hbs
          rcases k1 _ hb with hf | hf
          · have := f2 _ hf; omega
          · omega
      · intro b hb
        by_cases hbw : b < w.heap.size
        · simp only [if_pos hbw]
          rcases k1 b hb with hf | hf
          · exact f2 b hf
          · omega
        · have hb1 := hF b hb
          have q1 : ¬ (v.ownBlock = some b) := k2 b hb
          have q2 : ¬ ((Value.slice so' (vals.length + 1) sc').ownBlock = some b) := fun e => by
            rcases n4 b e with e | e
            · have := hsb b e; omega
            · omega
          simp only [if_neg hbw, if_neg q1, if_neg q2]
      · exact g1.same (by omega) (fun b hb => HO.block b (g1.lt b hb) (by have := g2 b hb; omega))
      · exact fun b hb => (hl b (g1.lt b hb)).trans (g2 b hb)
    have ht := GtOK.turn hi h2 ps[i] rfl hn (by omega) hl (fun b hb hk => HO.block b hb (by rcases hk with hk | ⟨k, hk, hk2⟩ <;> omega))
    rw [List.set_getElem_self] at ht
    exact ht
  · rw [List.length_append]; exact r4
  · rw [List.length_append]
    intro b hb
    rcases n4 b hb with e | e
    · exact (hl b (hsb b e).2).trans (hsb b e).1
    · have q0 : ¬ (b < w.heap.size) := by omega
      have q1 : ¬ (v.ownBlock = some b) := fun e => by have := hvb b e; omega
      show (if b < w.heap.size then lab b else if v.ownBlock = some b then 3 + 5 * vals.length else if (Value.slice so' (vals.length + 1) sc').ownBlock = some b then 2 else 5 + 5 * i) = 2
      rw [if_neg q0, if_neg q1]
      exact if_pos hb
  · intro k hk
    rw [List.length_append, List.length_singleton] at hk
    by_cases hkv : k < vals.length
    · rw [List.getElem_append_left hkv]
      obtain ⟨u1, u2⟩ := h3.at_ k hkv
      exact ⟨u1.same (fun b hb => HO.block b (u1.lt b hb) (by have := u2 b hb; omega)), fun b hb => (hl b (u1.lt b hb)).trans (u2 b hb)⟩
    · obtain rfl : k = vals.length := by omega
      rw [List.getElem_append_right (by omega)]
      simp only [Nat.sub_self, List.getElem_cons_zero]
      refine ⟨s4, fun b hb => ?_⟩
      have hv := hvb b (v4 b hb)
      have q0 : ¬ (b < w.heap.size) := by omega
      rw [if_neg q0, if_pos (v4 b hb)]
set_option maxHeartbeats 1600000 in
theorem lawStatus_any (X : XBase) {w : World} {wl : Nat} {lab : Nat → Nat} {tb : Bool} {ev wv : Value} {ps : List Pr} {vals : List Value} (h : LC X w wl lab tb ev wv ps vals) (i : Nat) (hi : i < ps.length) (hk : (vals.length + 1) * 24 ≤ 140737488355328) :
    Calls Tryz.prog 18 #[ptrV wl, ptrV ps[i].pb] w fun e w' => e = .returned (.bool true) ∧ ∃ lab' v, LC X w' wl lab' tb ev wv ps (vals ++ [v]) ∧ (∀ b, b < w.heap.size → lab' b = lab b) ∧ Off (fun b => lab b = 0 ∨ lab b = 2 ∨ lab b = 5 + 5 * i) w w' := by
  obtain ⟨ga, gc, so, sc, h1, h2, h3⟩ := h.ex
  obtain ⟨p, hpe⟩ : ∃ p, p = ps[i] := ⟨_, rfl⟩
  have HPE : Hid (p = ps[i]) := hpe
  have hp : PrOK X w lab i p := by rw [hpe]; exact h2.pr i hi
  rw [← hpe]
  clear hpe
  obtain ⟨F, f1, f2⟩ := hp.gx
  obtain ⟨G, g1, g2⟩ := hp.gy
  have hwl := lt_of_block h1
  have hpb := lt_of_block hp.cell
  have c0 := cell_of_row w p.pb 0 _ _ _ hp.cell
  have c1 := cell_of_row w p.pb 1 _ _ _ hp.cell
  have HH : Hid (LC X w wl lab tb ev wv ps vals) := h
  have HW : Hid (w.heap[wl]? = some (.cells #[.slice ga ps.length gc, .bool tb, .slice so vals.length sc, ev, wv] 31 (0, 0))) := h1
  have HG : Hid (GtOK X w lab ga gc ps) := h2
  have HL : Hid (LsOK w lab so sc vals) := h3
  have HX : Hid (X.Inv w p.x p.sx F) := f1
  have HY : Hid (RGate w p.y p.sy G) := g1
  have HE : Hid (stats p.sx = stats p.sy) := hp.sim.stats (X.ok f1).tel
  have H24 : (stats p.sx).length ≤ 24 := by rw [stats_len]; exact (X.ok f1).l24
  have HS : Hid (∀ b, F b → lab b = 5 + 5 * i) := f2
  have HSG : Hid (∀ b, G b → lab b = 6 + 5 * i) := g2
  have hpF : ¬ F p.pb := fun e => by have := f2 _ e; have := hp.lb; omega
  have HI : Hid (i < ps.length) := hi
  have HPL : Hid (lab p.pb = 4 + 5 * i) := hp.lb
  clear h h1 h2 h3 hp f1 f2 g1 g2
  obtain ⟨L, hLe⟩ : ∃ L, L = stats p.sx := ⟨_, rfl⟩
  rw [← hLe] at H24 HE
  have HLE : Hid (L = stats p.sx) := hLe
  clear hLe
  unfold ptrV at c0 c1 ⊢
  obtain ⟨K, hK⟩ : ∃ K : World → Prop, K = fun w' => ∃ lab' v, LC X w' wl lab' tb ev wv ps (vals ++ [v]) ∧ (∀ b, b < w.heap.size → lab' b = lab b) ∧ Off (fun b => lab b = 0 ∨ lab b = 2 ∨ lab b = 5 + 5 * i) w w' := ⟨_, rfl⟩
  have HK : Hid (K = fun w' => ∃ lab' v, LC X w' wl lab' tb ev wv ps (vals ++ [v]) ∧ (∀ b, b < w.heap.size → lab' b = lab b) ∧ Off (fun b => lab b = 0 ∨ lab b = 2 ∨ lab b = 5 + 5 * i) w w') := hK
  suffices hsuff : Calls Tryz.prog 18 #[.pointer (some ⟨wl, 0, none⟩), .pointer (some ⟨p.pb, 0, none⟩)] w fun e w' => e = .returned (.bool true) ∧ K w' by
    refine hsuff.mono ?_
    rintro e w' ⟨he, hkk⟩
    rw [hK] at hkk
    exact ⟨he, hkk⟩
  clear hK
  go_enter Tryz.func18, Tryz.ntmps18
  go_wp2_with fail
  refine (X.status HX.out).mono ?_
  rintro e w1 ⟨v, F', rfl, t1, i1, k1, k2, o1⟩
  rw [← HLE.out] at t1
  obtain ⟨ao, cap, rfl⟩ := ownsRow_shape t1
  have T1 : Hid (TRow w1 w.heap.size (.slice ao L.length cap) L) := t1
  have I1 : Hid (X.Inv w1 p.x p.sx F') := i1
  have K1 : Hid (∀ b, F' b → F b ∨ w.heap.size ≤ b) := k1
  have K2 : Hid (∀ b, F' b → (Value.slice ao L.length cap).ownBlock ≠ some b) := k2
  clear t1 i1 k1 k2
  have c1w := (o1.cell (a := ⟨p.pb, 1, none⟩) hpb hpF).trans c1
  clear c0 c1
  go_wp2_with fail
  have HY1 : RGate w1 p.y p.sy G := HY.out.same o1.size (fun b hb => o1.block b (HY.out.lt b hb) (fun hf => by have := HS.out b hf; have := HSG.out b hb; omega))
  refine (refStatus_any p.y p.sy G w1 HY1).mono ?_
  rintro e w2 ⟨⟨v2, rfl, t2⟩, b2⟩
  rw [← HE.out] at t2
  obtain ⟨ao2, cap2, rfl⟩ := ownsRow_shape t2
  have T2 : Hid (TRow w2 w1.heap.size (.slice ao2 L.length cap2) L) := t2
  clear t2 HY1
  have T1' : Hid (TRow w2 w.heap.size (.slice ao L.length cap) L) := T1.out.same (fun b hb => b2.block b (World.ownsRow.lt T1.out b hb).2)
  go_wp2_with fail
  refine (sameStatuses_any L ao ao2 cap cap2 _ _ w2 T1'.out T2.out H24).mono ?_
  rintro e w3 ⟨rfl, nd, hw3⟩
  have b3 : Below w1.heap.size w1 w3 := by subst hw3; exact below_drewN b2 _
  have T3 : TRow w3 w.heap.size (.slice ao L.length cap) L := T1.out.same (fun b hb => b3.block b (World.ownsRow.lt T1.out b hb).2)
  clear hw3 T2 T1'
  have hall : ∀ b, b < w.heap.size → ¬ F b → w3.heap[b]? = w.heap[b]? := fun b hb hn => (b3.block b (by have := o1.size; omega)).trans (o1.block b hb hn)
  have l0 := HH.out.l0
  have hW3 := (hall wl hwl (fun hf => by have := HS.out _ hf; omega)).trans HW.out
  have row3 : w3.ownsRow 0 61 1 (.slice so vals.length sc) vals.length vals := ownsRow_same HL.out.row (fun b hb => hall b (World.ownsRow.lt HL.out.row b hb).2 (fun hf => by have := HS.out _ hf; have := HL.out.rl b hb; omega))
  have HKS : Hid (Calls Tryz.prog 37 #[.pointer (some ⟨wl, 0, none⟩), .slice ao L.length cap] w3 fun e w' => e = .returned (.tuple #[]) ∧ ∃ v' so' sc', SsAt w' v' vals.length ∧ (∀ b, v'.ownBlock = some b → (Value.slice ao L.length cap).ownBlock = some b) ∧ w'.heap[wl]? = some (.cells (#[.slice ga ps.length gc, .bool tb, .slice so vals.length sc, ev, wv].setIfInBounds 2 (.slice so' (vals.length + 1) sc')) 31 (0, 0)) ∧ w'.ownsRow 0 61 1 (.slice so' (vals.length + 1) sc') (vals.length + 1) (vals ++ [v']) ∧ (∀ b, (Value.slice so' (vals.length + 1) sc').ownBlock = some b → (Value.slice so vals.length sc).ownBlock = some b ∨ w3.heap.size ≤ b) ∧ Off (fun b => b = wl ∨ (Value.slice ao L.length cap).ownBlock = some b ∨ (Value.slice so vals.length sc).ownBlock = some b) w3 w') :=
    keepStatuses_any wl so vals.length sc vals _ _ L w3 _ hW3 rfl row3 T3 (fun b hb e => by have := (World.ownsRow.lt T1.out b hb).1; omega) hk (fun b hb => ⟨fun e => by have := HL.out.rl b hb; subst e; omega, fun e => by have := (World.ownsRow.lt T1.out b e).1; have := (World.ownsRow.lt HL.out.row b hb).2; omega⟩)
  clear hW3 row3 T3 hall c1w
  go_wp2_with fail
  refine HKS.out.mono ?_
  rintro e w4 ⟨rfl, v', so', sc', s4, v4, e4, r4, n4, o4⟩
  have HF : Hid (K w4) := by
    show K w4
    rw [HK.out]
    have e := HPE.out
    have q2 := I1.out
    rw [e] at q2
    exact LC.told HH.out HI.out HW.out HG.out HL.out HS.out T1.out q2 K1.out K2.out o1 b3 s4 v4 e4 r4 n4 o4
  clear s4 v4 e4 r4 n4 o4 HKS
  go_wp2_with fail
  go_ret
  exact ⟨rfl, HF.out⟩
end Go.Proofs.YtgkiknfpcbcnnaaGreat
namespace Go.Proofs.YtgkiknfpcbcnnaaGreat
open Go.RowKit
set_option maxRecDepth 20000
theorem heap_at_new (w : World) (o : Obj) (k : Nat) (hk : w.heap.size = k) : (w.alloc o).heap[k]? = some o := by
  subst hk; exact heap_alloc_new w o
theorem infoPairP : (Tryz.prog.info? 52).map (fun i => (i.zero, i.size, i.bytes)) = some (some (.pointer none), 1, 8) := by kernel_rfl
theorem LC.more {X : XBase} {w w1 w2 w4 : World} {wl : Nat} {lab : Nat → Nat} {tb : Bool} {ev wv : Value} {ps : List Pr} {vals : List Value} {ga ga' so : Option Addr} {gc gc' sc pb x y : Nat} {F : Nat → Prop} {c : Cf}
    (h : LC X w wl lab tb ev wv ps vals) (h1 : w.heap[wl]? = some (.cells #[.slice ga ps.length gc, .bool tb, .slice so vals.length sc, ev, wv] 31 (0, 0))) (h2 : GtOK X w lab ga gc ps) (h3 : LsOK w lab so sc vals)
    (b1 : Below w.heap.size w w1) (i1 : X.Inv w1 x ⟨c, [], []⟩ F) (k1 : ∀ b, F b → w.heap.size ≤ b) (b2 : Below w1.heap.size w1 w2) (r2 : RGate w2 y ⟨c, [], []⟩ (fun b => b = y)) (k2 : w1.heap.size ≤ y)
    (p4 : w4.heap[pb]? = some (.cells #[ptrV x, ptrV y, .slice none 0 0] 55 (0, 0))) (q4 : pb = w2.heap.size) (e4 : w4.heap[wl]? = some (.cells (#[.slice ga ps.length gc, .bool tb, .slice so vals.length sc, ev, wv].setIfInBounds 0 (.slice ga' (ps.length + 1) gc')) 31 (0, 0))) (r4 : w4.ownsRow 0 52 1 (.slice ga' (ps.length + 1) gc') (ps.length + 1) (ps.map (fun p => ptrV p.pb) ++ [ptrV pb])) (n4 : ∀ b, (Value.slice ga' (ps.length + 1) gc').ownBlock = some b → (Value.slice ga ps.length gc).ownBlock = some b ∨ pb < b) (o4 : Off (fun b => b = wl ∨ (Value.slice ga ps.length gc).ownBlock = some b) w2 w4) :
    ∃ lab', LC X w4 wl lab' tb ev wv (ps ++ [⟨pb, x, y, ⟨c, [], []⟩, ⟨c, [], []⟩, .slice none 0 0⟩]) vals ∧ (∀ b, b < w.heap.size → lab' b = lab b) ∧ Off (fun b => lab b = 0 ∨ lab b = 1) w w4 := by
  have hz1 := b1.size
  have hz2 := b2.size
  have hz4 := o4.size
  have hwl := lt_of_block h1
  have hgb : ∀ b, (Value.slice ga ps.length gc).ownBlock = some b → lab b = 1 ∧ b < w.heap.size := fun b hb => ⟨h2.rl b hb, (World.ownsRow.lt h2.row b hb).2⟩
  have hb2 : Below w.heap.size w w2 := b1.trans (b2.mono hz1)
  have HO : Off (fun b => lab b = 0 ∨ lab b = 1) w w4 := by
    refine Off.trans (F := fun b => lab b = 0 ∨ lab b = 1) (Off.of hb2) o4 (fun b hb => ?_)
    rcases hb with rfl | hb
    · exact .inl (.inl h.l0)
    · exact .inl (.inr (hgb b hb).1)
  obtain ⟨lab', hlab⟩ : ∃ lab' : Nat → Nat, lab' = fun b => if b < w.heap.size then lab b else if b < w1.heap.size then 5 + 5 * ps.length else if b < w2.heap.size then 6 + 5 * ps.length else if b = w2.heap.size then 4 + 5 * ps.length else 1 := ⟨_, rfl⟩
  have l0 : ∀ b, b < w.heap.size → lab' b = lab b := fun b hb => by rw [hlab]; simp only [if_pos hb]
  have l1 : ∀ b, ¬ b < w.heap.size → b < w1.heap.size → lab' b = 5 + 5 * ps.length := fun b hb h1 => by rw [hlab]; simp only [if_neg hb, if_pos h1]
  have l2 : ∀ b, ¬ b < w1.heap.size → b < w2.heap.size → lab' b = 6 + 5 * ps.length := fun b hb h1 => by rw [hlab]; simp only [if_neg hb, if_pos h1, if_neg (show ¬ b < w.heap.size by omega)]
  have l3 : lab' w2.heap.size = 4 + 5 * ps.length := by rw [hlab]; simp only [if_neg (show ¬ w2.heap.size < w.heap.size by omega), if_neg (show ¬ w2.heap.size < w1.heap.size by omega), if_neg (show ¬ w2.heap.size < w2.heap.size by omega), if_true]
  have l4 : ∀ b, w2.heap.size < b → lab' b = 1 := fun b hb => by rw [hlab]; simp only [if_neg (show ¬ b < w.heap.size by omega), if_neg (show ¬ b < w1.heap.size by omega), if_neg (show ¬ b < w2.heap.size by omega), if_neg (show ¬ b = w2.heap.size by omega)]
  clear hlab
  have hlen : (ps ++ [(⟨pb, x, y, ⟨c, [], []⟩, ⟨c, [], []⟩, .slice none 0 0⟩ : Pr)]).length = ps.length + 1 := by simp
  refine ⟨lab', ⟨⟨ga', gc', so, sc, ?_, ⟨?_, ?_, ?_⟩, ?_⟩, (l0 wl hwl).trans h.l0⟩, l0, HO⟩
  · rw [hlen]; exact e4
  · rw [hlen, List.map_append]; exact r4
  · rw [hlen]
    intro b hb
    rcases n4 b hb with e | e
    · exact (l0 b (hgb b e).2).trans (hgb b e).1
    · exact l4 b (by omega)
  · intro i hi
    rw [hlen] at hi
    by_cases hip : i < ps.length
    · rw [List.getElem_append_left hip]
      exact (h2.pr i hip).same (by omega) l0 (fun b hb hk => HO.block b hb (by omega))
    · obtain rfl : i = ps.length := by omega
      rw [List.getElem_append_right (by omega)]
      simp only [Nat.sub_self, List.getElem_cons_zero]
      have hy := r2.lt y rfl
      have old : ∀ b, w.heap.size ≤ b → b < w2.heap.size → w4.heap[b]? = w2.heap[b]? := fun b hb1 hb2 => o4.block b hb2 (fun e => by
        rcases e with e | e
        · omega
        · have := hgb b e; omega)
      refine ⟨p4, by rw [q4]; exact l3, ⟨F, ?_, ?_⟩, ⟨fun b => b = y, ?_, ?_⟩, Sim.refl _⟩
      · refine X.same i1 (by omega) (fun b hb => ?_)
        have := k1 b hb
        have hb1 := X.lt i1 b hb
        exact (old b this (by omega)).trans (b2.block b hb1)
      · intro b hb
        have := k1 b hb
        exact l1 b (by omega) (X.lt i1 b hb)
      · refine r2.same (by omega) (fun b hb => ?_)
        subst hb
        exact old b (by omega) hy
      · intro b hb
        subst hb
        exact l2 b (by omega) hy
  · exact h3.same l0 (fun b hb hk => HO.block b hb (by rcases hk with hk | ⟨k, hk, hk2⟩ <;> omega))
set_option maxHeartbeats 1600000 in
theorem opened_any (X : XBase) {w : World} {wl : Nat} {lab : Nat → Nat} {tb : Bool} {ev wv : Value} {ps : List Pr} {vals : List Value} (h : LC X w wl lab tb ev wv ps vals) (c : Cf) (hk : (ps.length + 1) * 8 ≤ 140737488355328) :
    Calls Tryz.prog 7 #[ptrV wl, cfV c] w fun e w' => e = .returned (.bool true) ∧ ∃ lab' qs, LC X w' wl lab' tb ev wv (ps ++ qs) vals ∧ qs.length ≤ 1 ∧ (∀ q ∈ qs, q.sy = ⟨c, [], []⟩ ∧ q.tv = .slice none 0 0) ∧ (∀ b, b < w.heap.size → lab' b = lab b) ∧ Off (fun b => lab b = 0 ∨ lab b = 1) w w' := by
  obtain ⟨ga, gc, so, sc, h1, h2, h3⟩ := h.ex
  obtain ⟨i0, hi, hz0, hz1, hz2⟩ := info_parts infoPairP
  have hwl := lt_of_block h1
  have k0 := cell_of_row w wl 0 _ _ _ h1
  have HH : Hid (LC X w wl lab tb ev wv ps vals) := h
  have HW : Hid (w.heap[wl]? = some (.cells #[.slice ga ps.length gc, .bool tb, .slice so vals.length sc, ev, wv] 31 (0, 0))) := h1
  have HG : Hid (GtOK X w lab ga gc ps) := h2
  have HL : Hid (LsOK w lab so sc vals) := h3
  have HN : Hid (∀ w, Calls Tryz.prog 11 #[cfV c] w fun e w' => (if cfOK c then ∃ x F, e = .returned (.tuple #[ptrV x, .int .i64 0]) ∧ X.Inv w' x ⟨c, [], []⟩ F ∧ ∀ b, F b → w.heap.size ≤ b else e = .returned (.tuple #[.pointer none, .int .i64 5])) ∧ Below w.heap.size w w') := X.new c
  have HM : Hid (∀ w, Calls Tryz.prog 12 #[cfV c] w fun e w' => (if cfOK c then ∃ g, e = .returned (.tuple #[.pointer (some ⟨g, 0, none⟩), .int .i64 0]) ∧ RGate w' g ⟨c, [], []⟩ (fun b => b = g) ∧ w.heap.size ≤ g else e = .returned (.tuple #[.pointer none, .int .i64 5])) ∧ Below w.heap.size w w') := refNew_any c
  clear h h1 h2 h3
  obtain ⟨K, hK⟩ : ∃ K : World → Prop, K = fun w' => ∃ lab' qs, LC X w' wl lab' tb ev wv (ps ++ qs) vals ∧ qs.length ≤ 1 ∧ (∀ q ∈ qs, q.sy = ⟨c, [], []⟩ ∧ q.tv = .slice none 0 0) ∧ (∀ b, b < w.heap.size → lab' b = lab b) ∧ Off (fun b => lab b = 0 ∨ lab b = 1) w w' := ⟨_, rfl⟩
  have HK : Hid (K = fun w' => ∃ lab' qs, LC X w' wl lab' tb ev wv (ps ++ qs) vals ∧ qs.length ≤ 1 ∧ (∀ q ∈ qs, q.sy = ⟨c, [], []⟩ ∧ q.tv = .slice none 0 0) ∧ (∀ b, b < w.heap.size → lab' b = lab b) ∧ Off (fun b => lab b = 0 ∨ lab b = 1) w w') := hK
  suffices hsuff : Calls Tryz.prog 7 #[.pointer (some ⟨wl, 0, none⟩), cfV c] w fun e w' => e = .returned (.bool true) ∧ K w' by
    refine hsuff.mono ?_
    rintro e w' ⟨he, hkk⟩
    rw [hK] at hkk
    exact ⟨he, hkk⟩
  clear hK
  unfold cfV at HN HM ⊢
  obtain ⟨wA, hwA⟩ : ∃ wA, wA = w.alloc (.cells #[.int .i64 c.cp, .int .i64 c.bu, .int .i64 c.n0, .int .i64 c.n1, .int .i64 c.n2, .int .i64 c.n3] 34) := ⟨_, rfl⟩
  have HWA : Hid (wA = w.alloc (.cells #[.int .i64 c.cp, .int .i64 c.bu, .int .i64 c.n0, .int .i64 c.n1, .int .i64 c.n2, .int .i64 c.n3] 34)) := hwA
  have hbA : Below w.heap.size w wA := by rw [hwA]; exact below_alloc _ _
  have bA : Below (w.alloc (.cells #[.int .i64 c.cp, .int .i64 c.bu, .int .i64 c.n0, .int .i64 c.n1, .int .i64 c.n2, .int .i64 c.n3] 34)).heap.size (w.alloc (.cells #[.int .i64 c.cp, .int .i64 c.bu, .int .i64 c.n0, .int .i64 c.n1, .int .i64 c.n2, .int .i64 c.n3] 34)) wA := by rw [hwA]; exact Below.refl _ _
  clear hwA
  cases hc : cfOK c
  · rw [hc] at HN HM
    simp only [Bool.false_eq_true, if_false] at HN HM
    clear hc
    go_enter Tryz.func7, Tryz.ntmps7
    go_wp2_with fail
    rw [← HWA.out]
    refine (HN.out _).mono ?_
    rintro e w1 ⟨rfl, hb1⟩
    obtain ⟨a0, a1, a2, a3, a4, a5, az⟩ := cells_six (bA.trans (hb1.mono bA.size))
    go_wp2_with fail
    refine (HM.out _).mono ?_
    rintro e w2 ⟨rfl, hb2⟩
    have hbw : Below w.heap.size w w2 := (hbA.trans (hb1.mono hbA.size)).trans (hb2.mono (by have := hb1.size; have := hbA.size; omega))
    go_wp2_with fail
    go_ret
    refine ⟨rfl, ?_⟩
    rw [HK.out]
    exact ⟨lab, [], by rw [List.append_nil]; exact HH.out.same hbw, by simp, by simp, fun _ _ => rfl, Off.of hbw⟩
  · rw [hc] at HN HM
    simp only [if_true] at HN HM
    clear hc
    go_enter Tryz.func7, Tryz.ntmps7
    go_wp2_with fail
    rw [← HWA.out]
    refine (HN.out _).mono ?_
    rintro e w1 ⟨⟨x, F, rfl, i1, k1⟩, hb1⟩
    obtain ⟨a0, a1, a2, a3, a4, a5, az⟩ := cells_six (bA.trans (hb1.mono bA.size))
    unfold ptrV
    go_wp2_with fail
    refine (HM.out _).mono ?_
    rintro e w2 ⟨⟨y, rfl, r2, k2⟩, hb2⟩
    have hzA := hbA.size
    have hz1' := hb1.size
    have hz2' := hb2.size
    have hbw1 : Below w.heap.size w w1 := hbA.trans (hb1.mono hzA)
    have hbw : Below w.heap.size w w2 := hbw1.trans (hb2.mono (by omega))
    have k0w := (hbw.cell (p := ⟨wl, 0, none⟩) hwl).trans k0
    have hrow2 : w2.ownsRow 0 52 1 (.slice ga ps.length gc) ps.length (ps.map fun p => ptrV p.pb) := ownsRow_same HG.out.row (fun b hb => hbw.block b (World.ownsRow.lt HG.out.row b hb).2)
    have HR2 : Hid (w2.ownsRow 0 52 1 (.slice ga ps.length gc) ps.length (ps.map fun p => ptrV p.pb)) := hrow2
    have nga : some wl ≠ (Value.slice ga ps.length gc).ownBlock := fun e => by have := HG.out.rl wl e.symm; have := HH.out.l0; omega
    have hW2 : w2.heap[wl]? = some (.cells #[.slice ga ps.length gc, .bool tb, .slice so vals.length sc, ev, wv] 31 (0, 0)) := (hbw.block wl hwl).trans HW.out
    have HW2 : Hid (w2.heap[wl]? = some (.cells #[.slice ga ps.length gc, .bool tb, .slice so vals.length sc, ev, wv] 31 (0, 0))) := hW2
    have I1 : Hid (X.Inv w1 x ⟨c, [], []⟩ F) := i1
    have K1 : Hid (∀ b, F b → wA.heap.size ≤ b) := k1
    have R2 : Hid (RGate w2 y ⟨c, [], []⟩ (fun b => b = y)) := r2
    have hwl2 : wl < w2.heap.size := by omega
    clear hrow2 hW2 i1 k1 r2
    go_wp2_with (at_builtin; refine wpList_append_lies _ rfl _ _ 26 rfl 0 52 i0 _ 1 8 Tryz.underlying26 hi hz0 hz1 hz2 rfl (by decide) (.slice ga ps.length gc) ps.length (ps.map fun p => ptrV p.pb) rfl ((HR2.out.alloc _).alloc _) ⟨w2.heap.size + 1, 0, none⟩ 1 1 [.pointer (some ⟨w2.heap.size, 0, none⟩)] rfl rfl (World.news_of_block (heap_at_new (w2.alloc _) _ _ (by simp))) (by intro u hu; simp only [List.mem_singleton] at hu; subst hu; rfl) (by decide) (by unfold maxLen; omega) (by omega) (Nat.zero_le _) (w2.heap.size + 1 + 1) (by simp) ?_; intro g' cap' w4 hown hgrow hat hlt4; have hW4 : w4.heap[wl]? = some (.cells #[.slice ga ps.length gc, .bool tb, .slice so vals.length sc, ev, wv] 31 (0, 0)) := ((hgrow.block wl (by simp; omega) nga).trans ((((Below.refl w2.heap.size w2).alloc (Nat.le_refl _) _).alloc (by simp) _).block wl hwl2)).trans HW2.out; have f4 := frozen_of_row w4 wl 0 _ _ hW4; have c4' := cell_of_row w4 wl 0 _ _ _ hW4)
    go_ret
    refine ⟨rfl, ?_⟩
    rw [HK.out]
    have hgwl : g' ≠ wl := fun e => by
      subst e
      rcases hat with hat | hat
      · exact nga hat.symm
      · omega
    have nga2 : some w2.heap.size ≠ (Value.slice ga ps.length gc).ownBlock := fun e => by have := (World.ownsRow.lt HR2.out w2.heap.size e.symm).2; omega
    have hsz := hgrow.size
    simp only [World.size_alloc] at hsz
    have hall : ∀ b, b < w2.heap.size → some b ≠ (Value.slice ga ps.length gc).ownBlock → w4.heap[b]? = w2.heap[b]? := fun b hb hne => (hgrow.block b (by simp; omega) hne).trans ((((Below.refl w2.heap.size w2).alloc (Nat.le_refl _) _).alloc (by simp) _).block b hb)
    obtain ⟨lab', q1, q2, q3⟩ := LC.more (pb := w2.heap.size) (w4 := w4.setCell ⟨wl, 0, none⟩ (.slice (some ⟨g', 0, none⟩) (ps.length + 1) cap')) (ga' := some ⟨g', 0, none⟩) (gc' := cap') (x := x) (y := y) HH.out HW.out HG.out HL.out hbw1 I1.out (fun b hb => by have := K1.out b hb; omega) hb2 R2.out k2
      ((Below.heap_setCell _ _ _ _ (by show w2.heap.size ≠ wl; omega)).trans ((hgrow.block w2.heap.size (by simp; omega) nga2).trans ((heap_alloc_old (w2.alloc _) _ (by simp)).trans (heap_alloc_new w2 _)))) rfl (heap_setCell_same w4 wl 0 _ _ _ hW4)
      (ownsRow_same hown (fun b hb => Below.heap_setCell _ _ _ _ (fun e => hgwl (by
          have : g' = b := by simpa [Value.ownBlock] using hb
          rw [this]; exact e))))
      (fun b hb => by
        have e : g' = b := by simpa [Value.ownBlock] using hb
        subst e
        rcases hat with hat | hat
        · exact .inl hat
        · exact .inr (by omega))
      (by
        refine Off.setCell ?_ (.inl (.inl rfl)) _
        exact ⟨hgrow.os, hgrow.tape, hgrow.output, by omega, fun b hb hn => hall b hb (fun e => hn (.inr e.symm))⟩)
    exact ⟨lab', [_], q1, by simp, by simp, q2, q3⟩
end Go.Proofs.YtgkiknfpcbcnnaaGreat
namespace Go.Proofs.YtgkiknfpcbcnnaaGreat
open Go.RowKit
set_option maxRecDepth 20000
theorem Off.free {F : Nat → Prop} {w w' : World} {B : Nat} (h : Off F w w') (hB : B ≤ w.heap.size) (hF : ∀ b, b < B → ¬ F b) : Below B w w' :=
  ⟨h.os, h.tape, h.output, h.size, fun k hk => h.block k (by omega) (hF k hk)⟩
theorem LC.read {X : XBase} {w : World} {wl : Nat} {lab : Nat → Nat} {tb : Bool} {ev wv : Value} {ps : List Pr} {vals : List Value} (h : LC X w wl lab tb ev wv ps vals) : ∃ ga gc, w.cell? ⟨wl, 0, none⟩ = some (.slice ga ps.length gc) ∧ w.cell? ⟨wl, 1, none⟩ = some (.bool tb) ∧ wl < w.heap.size ∧ ∀ i (hi : i < ps.length), ∃ g, ga = some ⟨g, 0, none⟩ ∧ g < w.heap.size ∧ w.cell? ⟨g, i, none⟩ = some (.pointer (some ⟨ps[i].pb, 0, none⟩)) := by
  obtain ⟨ga, gc, so, sc, h1, h2, h3⟩ := h.ex
  refine ⟨ga, gc, cell_of_row w wl 0 _ _ _ h1, cell_of_row w wl 1 _ _ _ h1, lt_of_block h1, fun i hi => ?_⟩
  obtain ⟨g, hg, hgz, hc⟩ := row_one' h2.row (by omega)
  refine ⟨g, hg, hgz, ?_⟩
  have := hc i (by rw [List.length_map]; exact hi)
  rw [List.getElem_map] at this
  exact this
theorem mul24 {k : Nat} (h : k + 1 ≤ 5864062014805) : (k + 1) * 24 ≤ 140737488355328 := Nat.le_trans (Nat.mul_le_mul_right 24 h) (by decide)
end Go.Proofs.YtgkiknfpcbcnnaaGreat
