import Derived.Test.YtgkiknfpcbcnnaaGreatGaa
import Derived.Test.YtgkiknfpcbcnnaaGreatGp
import Derived.BigQuiet
import Derived.Deep.RegionHeld3
namespace Go.Proofs.YtgkiknfpcbcnnaaGreat
open Go.RowKit
set_option maxRecDepth 20000
theorem cutB_nat (b k : Nat) (hk : k ≤ 16) : cutB (b : Int) (k : Int) = ((b / 2 ^ (16 - k) * 2 ^ (16 - k) : Nat) : Int) := by
  unfold cutB
  have e : (16 - (k : Int)).toNat = 16 - k := by omega
  rw [e]
  simp
set_option maxHeartbeats 800000 in
theorem cut_any (b k : Nat) (ln : Int) (w : World) (hb : b ≤ 65535) (hk : k ≤ 16) :
    Calls Tryz.prog 111 #[.agg #[.int .i64 (b : Int), .int .i64 ln], .int .i64 (k : Int)] w fun e w' => e = .returned (.agg #[.int .i64 (cutB b k), .int .i64 (k : Int)]) ∧ Below w.heap.size w w' := by
  have HC : Hid (cutB (b : Int) (k : Int) = ((b / 2 ^ (16 - k) * 2 ^ (16 - k) : Nat) : Int)) := cutB_nat b k hk
  go_enter Tryz.func111, Tryz.ntmps111
  go_wp2_with fail
  go_loop [5, 6] (fun z i => ∃ j : Nat, k + j ≤ 16 ∧ z = .int .i64 ((2 ^ j : Nat) : Int) ∧ i = .int .i64 ((k + j : Nat) : Int)) (fun _ i => 16 - (intOf i).toNat)
  case atStart => exact ⟨0, by omega, rfl, by simp⟩
  case round =>
    obtain ⟨j, hj, rfl, rfl⟩ := hrel
    have hp := pow_bd j (by omega)
    by_cases hlt : k + j < 16
    · have e1 : 2 ^ (j + 1) = 2 * 2 ^ j := by rw [Nat.pow_succ, Nat.mul_comm]
      have H1 : Hid (2 ^ (j + 1) = 2 * 2 ^ j) := e1
      clear e1 HC
      generalize 2 ^ j = q at *
      generalize hs : k + j = s at *
      go_wp2_with fail
      go_round
      case rel => exact ⟨j + 1, by omega, by rw [H1.out]; congr 1, by congr 1; omega⟩
      case measure => simp [intOf]; omega
    · have hj16 : j = 16 - k := by omega
      subst hj16
      have hq : b / 2 ^ (16 - k) * 2 ^ (16 - k) ≤ b := Nat.div_mul_le_self _ _
      obtain ⟨d, hd⟩ : ∃ d, d = b / 2 ^ (16 - k) := ⟨_, rfl⟩
      have e2 : k + (16 - k) = 16 := by omega
      rw [← hd] at hq HC
      rw [e2]
      have hz : ((2 ^ (16 - k) : Nat) : Int) ≠ 0 := by omega
      have hdd : (b : Int) / ((2 ^ (16 - k) : Nat) : Int) = (d : Int) := by rw [hd]; simp
      clear hd hlt hj e2
      generalize 2 ^ (16 - k) = q at *
      have hm : (d : Int) * (q : Int) = ((d * q : Nat) : Int) := by simp
      have hb2 : d ≤ 65535 := by
        have : d * 1 ≤ d * q := Nat.mul_le_mul_left _ hp.1
        omega
      generalize d * q = m at *
      go_wp2_with fail
      refine bodyPost_ret (v := .agg #[.int .i64 (m : Int), .int .i64 (k : Int)]) (by simp [results, Tryz.results111, go_sem]) rfl ⟨by rw [HC.out], ?_⟩
      exact (below_alloc _ _).alloc (by simp) _
def RtIn (w : World) (ao : Option Addr) (l : List Rt) : Prop :=
  ∀ i (h : i < l.length), ∃ b off, ao = some ⟨b, off, none⟩ ∧ b < w.heap.size ∧ w.cell? ⟨b, off + i * 4, none⟩ = some (.int .i64 l[i].pe) ∧ w.cell? ⟨b, off + i * 4 + 1, none⟩ = some (.int .i64 l[i].bt) ∧
    w.cell? ⟨b, off + i * 4 + 2, none⟩ = some (.int .i64 l[i].ln) ∧ w.cell? ⟨b, off + i * 4 + 3, none⟩ = some (.int .i64 l[i].pa)
theorem RtIn.below {w w' : World} {ao : Option Addr} {l : List Rt} (h : RtIn w ao l) (hb : Below w.heap.size w w') : RtIn w' ao l := by
  intro i hi
  obtain ⟨b, off, e, hlt, c0, c1, c2, c3⟩ := h i hi
  exact ⟨b, off, e, Nat.lt_of_lt_of_le hlt hb.size, (hb.cell hlt).trans c0, (hb.cell hlt).trans c1, (hb.cell hlt).trans c2, (hb.cell hlt).trans c3⟩
theorem rtCs_get : ∀ (l : List Rt) (i : Nat) (h : i < l.length), (rtCs l)[i * 4]? = some (.int .i64 l[i].pe) ∧ (rtCs l)[i * 4 + 1]? = some (.int .i64 l[i].bt) ∧ (rtCs l)[i * 4 + 2]? = some (.int .i64 l[i].ln) ∧ (rtCs l)[i * 4 + 3]? = some (.int .i64 l[i].pa) := by
  intro l
  induction l with
  | nil => intro i h; simp at h
  | cons a l ih =>
    intro i h
    have e : rtCs (a :: l) = .int .i64 a.pe :: .int .i64 a.bt :: .int .i64 a.ln :: .int .i64 a.pa :: rtCs l := rfl
    rw [e]
    cases i with
    | zero => exact ⟨rfl, rfl, rfl, rfl⟩
    | succ i =>
      have e1 : (i + 1) * 4 = i * 4 + 1 + 1 + 1 + 1 := by omega
      rw [e1]
      simp only [List.getElem?_cons_succ, List.getElem_cons_succ]
      exact ih i (by simpa using h)
theorem RtIn.of {w : World} {B : Nat} {ao : Option Addr} {n c : Nat} {l : List Rt} (h : w.ownsRow B 104 4 (.slice ao n c) l.length (rtCs l)) : RtIn w ao l := by
  intro i hi
  rcases h.2 with ⟨_, h0⟩ | ⟨g, c', cur, hv, hg, hh, _⟩
  · omega
  · simp only [Value.slice.injEq] at hv
    obtain ⟨e1, e2, e3, e4⟩ := rtCs_get l i hi
    have k := fun j u hh => h.cells (g := g) (by rw [hv.1]; rfl) j u hh
    have c0 := k _ _ e1
    have c1 := k _ _ e2
    have c2 := k _ _ e3
    have c3 := k _ _ e4
    rw [add0] at c0 c1 c2 c3
    exact ⟨g, 0, hv.1, lt_of_block hh, c0, by rw [← Nat.add_assoc] at c1; exact c1, by rw [← Nat.add_assoc] at c2; exact c2, by rw [← Nat.add_assoc] at c3; exact c3⟩
set_option maxHeartbeats 1600000 in
theorem best_any (g : Nat) (ao : Option Addr) (cap : Nat) (l : List Rt) (bt ln : Int) (w : World) (hg : w.cell? ⟨g, 6, none⟩ = some (.slice ao l.length cap)) (hgz : g < w.heap.size) (h24 : l.length ≤ 24) (hin : RtIn w ao l) (hok : ∀ r ∈ l, peOK r.pe = true ∧ paOK r.pa = true) :
    Calls Tryz.prog 110 #[.pointer (some ⟨g, 0, none⟩), .agg #[.int .i64 bt, .int .i64 ln]] w fun e w' => e = .returned (.int .i64 (best l bt ln)) ∧ Below w.heap.size w w' := by
  have HO : Hid (∀ r ∈ l, peOK r.pe = true ∧ paOK r.pa = true) := hok
  clear hok
  go_enter Tryz.func110, Tryz.ntmps110
  go_wp2_with fail
  go_loopw [5, 6] (fun m x wr => ∃ (i : Nat) (v : Int), x = .int .i64 i ∧ m = .int .i64 v ∧ i ≤ l.length ∧ 0 ≤ v ∧ v ≤ 1024 ∧ Below (w.alloc (.cells #[.int .i64 bt, .int .i64 ln] 39)).heap.size (w.alloc (.cells #[.int .i64 bt, .int .i64 ln] 39)) wr ∧ Hid (bw bt ln 1024 l = bw bt ln v (l.drop i))) (fun _ x _ => l.length - (intOf x).toNat)
  case atStart => exact ⟨0, 1024, rfl, rfl, Nat.zero_le _, by omega, by omega, Below.refl _ _, rfl⟩
  case round =>
    obtain ⟨i, v, rfl, rfl, hi, v0, v1, hbel, H⟩ := hrel
    obtain ⟨a0, a1, az⟩ := cells_pr hbel
    have hb0 := below_first hbel
    have k0 := (hb0.cell (p := ⟨g, 6, none⟩) hgz).trans hg
    by_cases hlt : i < l.length
    · obtain ⟨b, off, rfl, bz, c0, c1, c2, c3⟩ := hin.below hb0 i hlt
      have hd : l.drop i = l[i] :: l.drop (i + 1) := List.drop_eq_getElem_cons hlt
      obtain ⟨p0, p1⟩ := HO.out l[i] (List.getElem_mem hlt)
      rw [hd] at H
      clear hd HO hin hg
      generalize l[i] = r at *
      obtain ⟨pe, rb, rl, pa⟩ := r
      simp only [] at c0 c1 c2 c3 p0 p1 H
      simp only [peOK, paOK, Bool.and_eq_true, decide_eq_true_eq] at p0 p1
      simp only [bw] at H
      have hcase : (rb = bt ∧ rl = ln ∧ 4 * pa + pe < v) ∨ (rb = bt ∧ rl = ln ∧ ¬ 4 * pa + pe < v) ∨ ¬ (rb = bt ∧ rl = ln) := by
        by_cases e1 : rb = bt ∧ rl = ln
        · by_cases e2 : 4 * pa + pe < v
          · exact .inl ⟨e1.1, e1.2, e2⟩
          · exact .inr (.inl ⟨e1.1, e1.2, e2⟩)
        · exact .inr (.inr e1)
      have w0 : 0 ≤ 4 * pa + pe ∧ 4 * pa + pe ≤ 1023 := by omega
      rcases hcase with ⟨rfl, rfl, e2⟩ | ⟨rfl, rfl, e2⟩ | e1
      · have HN : Hid (bw rb rl 1024 l = bw rb rl (4 * pa + pe) (l.drop (i + 1))) := by show _ = _; rw [H.out]; simp [e2]
        have d2 : decide (4 * pa + pe < v) = true := by simpa using e2
        clear H
        go_wp2_with fail
        go_quiet (fail)
        go_wp2_with fail
        go_quiet (fail)
        go_wp2_with fail
        go_roundw
        case rel => exact ⟨i + 1, 4 * pa + pe, by go_num, by go_num, by omega, by omega, by omega, below_drewN hbel _, HN⟩
        case measure => simp [intOf]; omega
      · have HN : Hid (bw rb rl 1024 l = bw rb rl v (l.drop (i + 1))) := by show _ = _; rw [H.out]; simp [e2]
        have d2 : decide (4 * pa + pe < v) = false := by simpa using e2
        clear H
        go_wp2_with fail
        go_quiet (fail)
        go_wp2_with fail
        go_quiet (fail)
        go_wp2_with fail
        go_roundw
        case rel => exact ⟨i + 1, v, by go_num, rfl, by omega, by omega, by omega, below_drewN hbel _, HN⟩
        case measure => simp [intOf]; omega
      · have e3 : (decide (rb = bt) && decide (rl = ln)) = false := by
          cases h : (decide (rb = bt) && decide (rl = ln))
          · rfl
          · simp only [Bool.and_eq_true, decide_eq_true_eq] at h
            exact absurd h e1
        have q : (rb == bt) = false ∨ (rl == ln) = false := by
          by_cases x : rb = bt
          · right; simp; exact fun y => e1 ⟨x, y⟩
          · left; simpa using x
        have HN : Hid (bw bt ln 1024 l = bw bt ln v (l.drop (i + 1))) := by show _ = _; rw [H.out, e3]; rfl
        clear H e3 e1
        rcases q with q | q
        all_goals
          go_wp2_with fail
          go_quiet (fail)
          go_wp2_with fail
          go_quiet (fail)
          go_wp2_with fail
          go_roundw
          case rel => exact ⟨i + 1, v, by go_num, rfl, by omega, by omega, by omega, below_drewN hbel _, HN⟩
          case measure => simp [intOf]; omega
    · have HF : Hid (best l bt ln = if v = 1024 then 4 else v % 4) := by
        show _ = _
        unfold best
        rw [H.out, List.drop_of_length_le (by omega)]
        rfl
      clear H HO hin
      by_cases hv : v = 1024
      · subst hv
        go_wp2_with fail
        go_ret
        exact ⟨by rw [HF.out]; rfl, hb0⟩
      · have hb : (v == 1024) = false := by simpa using hv
        have HF2 : Hid (best l bt ln = v % 4) := by show _ = _; rw [HF.out, if_neg hv]
        clear HF hv
        go_wp2_with fail
        go_ret
        exact ⟨by rw [HF2.out]; rfl, hb0⟩
end Go.Proofs.YtgkiknfpcbcnnaaGreat
namespace Go.Proofs.YtgkiknfpcbcnnaaGreat
open Go.RowKit
set_option maxRecDepth 20000
theorem best_bd (rts : List Rt) (bt ln : Int) : 0 ≤ best rts bt ln ∧ best rts bt ln ≤ 4 := by
  unfold best; split <;> omega
theorem best_some {rts : List Rt} {r : Rt} (hr : r ∈ rts) (hp : peOK r.pe = true) (ha : paOK r.pa = true) : best rts r.bt r.ln ≤ 3 := by
  have h := bw_low r.bt r.ln rts 1024 r hr rfl rfl
  simp only [peOK, paOK, Bool.and_eq_true, decide_eq_true_eq] at hp ha
  unfold best
  rw [if_neg (by omega)]
  omega
def whoK (rts : List Rt) (bt : Int) : Nat → Int
  | 0 => 4
  | j + 1 => who rts bt j
theorem who_step (rts : List Rt) (bt : Int) (j : Nat) : who rts bt j = if best rts (cutB bt j) j = 4 then whoK rts bt j else best rts (cutB bt j) j := by
  cases j with
  | zero =>
    show best rts (cutB bt 0) 0 = if best rts (cutB bt 0) 0 = 4 then 4 else _
    split
    · assumption
    · rfl
  | succ j =>
    simp only [who, whoK]
    have e : ((j + 1 : Nat) : Int) = (j : Int) + 1 := by omega
    rw [e]
structure GRead (w : World) (g : Nat) (c : Cf) (ao : Option Addr) (cap : Nat) (rts : List Rt) : Prop where
  cp : w.cell? ⟨g, 0, none⟩ = some (.int .i64 c.cp)
  bu : w.cell? ⟨g, 1, none⟩ = some (.int .i64 c.bu)
  net : ∀ i : Nat, i < 4 → w.cell? ⟨g, 2 + i, none⟩ = some (.int .i64 (netF c i))
  rv : w.cell? ⟨g, 6, none⟩ = some (.slice ao rts.length cap)
  lt : g < w.heap.size
  rin : RtIn w ao rts
  r24 : rts.length ≤ 24
  ok : ∀ r ∈ rts, peOK r.pe = true ∧ prefOK r.bt r.ln = true ∧ paOK r.pa = true
theorem GRead.below {w w' : World} {g : Nat} {c : Cf} {ao : Option Addr} {cap : Nat} {rts : List Rt} (h : GRead w g c ao cap rts) (hb : Below w.heap.size w w') : GRead w' g c ao cap rts :=
  ⟨(hb.cell h.lt).trans h.cp, (hb.cell h.lt).trans h.bu, fun i hi => (hb.cell h.lt).trans (h.net i hi), (hb.cell h.lt).trans h.rv, Nat.lt_of_lt_of_le h.lt hb.size, h.rin.below hb, h.r24, h.ok⟩
theorem GRead.best {w : World} {g : Nat} {c : Cf} {ao : Option Addr} {cap : Nat} {rts : List Rt} (h : GRead w g c ao cap rts) (bt ln : Int) :
    Calls Tryz.prog 110 #[.pointer (some ⟨g, 0, none⟩), .agg #[.int .i64 bt, .int .i64 ln]] w fun e w' => e = .returned (.int .i64 (best rts bt ln)) ∧ Below w.heap.size w w' :=
  best_any g ao cap rts bt ln w h.rv h.lt h.r24 h.rin (fun r hr => ⟨(h.ok r hr).1, (h.ok r hr).2.2⟩)
structure P0 (w : World) (po : Option Addr) (p : Pt) : Prop where
  ex : ∃ b off, po = some ⟨b, off, none⟩ ∧ b < w.heap.size ∧ w.cell? ⟨b, off, none⟩ = some (.int .i64 p.ty) ∧ w.cell? ⟨b, off + 1, none⟩ = some (.int .i64 p.bt) ∧ w.cell? ⟨b, off + 2, none⟩ = some (.int .i64 p.ln)
theorem P0.below {w w' : World} {po : Option Addr} {p : Pt} (h : P0 w po p) (hb : Below w.heap.size w w') : P0 w' po p := by
  obtain ⟨b, off, e, hlt, c0, c1, c2⟩ := h.ex
  exact ⟨b, off, e, Nat.lt_of_lt_of_le hlt hb.size, (hb.cell hlt).trans c0, (hb.cell hlt).trans c1, (hb.cell hlt).trans c2⟩
theorem holdsP_no {c : Cf} {rts : List Rt} {p : Pt} {pe : Int} (h : p.ty ≠ 1) : holdsP c rts p pe = false := by unfold holdsP; rw [decide_eq_false h]; rfl
theorem cells_7 {w : World} {a b c d e f i : Value} {ty : Nat} {w1 : World} (hb : Below (w.alloc (.cells #[a, b, c, d, e, f, i] ty)).heap.size (w.alloc (.cells #[a, b, c, d, e, f, i] ty)) w1) :
    w1.cell? ⟨w.heap.size, 1, none⟩ = some b ∧ w1.cell? ⟨w.heap.size, 3, none⟩ = some d ∧ w.heap.size < w1.heap.size := by
  have hz := hb.size
  simp only [World.size_alloc] at hz
  refine ⟨?_, ?_, by omega⟩
  all_goals exact (hb.cell (by simp)).trans (by simp [go_sem])
theorem cut_b (b k : Nat) (ln : Int) (w W0 : World) (hb : b ≤ 65535) (hk : k ≤ 16) (h0 : Below W0.heap.size W0 w) :
    Calls Tryz.prog 111 #[.agg #[.int .i64 (b : Int), .int .i64 ln], .int .i64 (k : Int)] w fun e w' => e = .returned (.agg #[.int .i64 (cutB b k), .int .i64 (k : Int)]) ∧ Below W0.heap.size W0 w' :=
  (cut_any b k ln w hb hk).mono fun _ _ h => ⟨h.1, h0.trans (h.2.mono h0.size)⟩
def bel1 (c : Cf) (rts : List Rt) (bt ln pe : Int) (r : Rt) : Bool := !(decide (ln < r.ln) && decide (cutB r.bt ln = bt)) || decide (netF c (Proofs.YtgkiknfpcbcnnaaGreat.best rts r.bt r.ln) = netF c pe)
set_option maxHeartbeats 4000000 in
theorem holding_any (g : Nat) (c : Cf) (ao : Option Addr) (cap : Nat) (rts : List Rt) (p : Pt) (tx ky : ByteArray) (pe ac ct : Int) (po : Option Addr) (pn pc : Nat) (cv : Value) (w : World) (hg : GRead w g c ao cap rts) (h0 : P0 w po p) (hpn : 0 < pn) (hpe : peOK pe = true) (hp : p.ty = 1 → prefOK p.bt p.ln = true) :
    Calls Tryz.prog 89 #[.pointer (some ⟨g, 0, none⟩), .agg #[.string tx, .int .i64 pe, .int .i64 ac, .slice po pn pc, .string ky, .int .i64 ct, cv]] w fun e w' => e = .returned (.bool (holdsP c rts p pe)) ∧ Below w.heap.size w w' := by
  by_cases hty : p.ty = 1
  · have hpr := hp hty
    obtain ⟨l0, l1, b0, b1, _⟩ := prefOK_bd hpr
    obtain ⟨ty, bt, ln, ts⟩ := p
    simp only [] at hty l0 l1 b0 b1 h0
    subst hty
    obtain ⟨b, rfl⟩ := Int.eq_ofNat_of_zero_le b0
    obtain ⟨L, rfl⟩ := Int.eq_ofNat_of_zero_le l0
    have hS : holdsP c rts ⟨1, (b : Int), (L : Int), ts⟩ pe = ((!decide (who rts (b : Int) L = 4) && decide (netF c (who rts (b : Int) L) = netF c pe)) && below c rts (b : Int) (L : Int) pe) := by
      unfold holdsP
      simp only [decide_true, Bool.true_and, Int.toNat_natCast]
    have HS : Hid (holdsP c rts ⟨1, (b : Int), (L : Int), ts⟩ pe = ((!decide (who rts (b : Int) L = 4) && decide (netF c (who rts (b : Int) L) = netF c pe)) && below c rts (b : Int) (L : Int) pe)) := hS
    clear hS hpr hp
    have HG : Hid (GRead w g c ao cap rts) := hg
    have HP : Hid (P0 w po ⟨1, (b : Int), (L : Int), ts⟩) := h0
    have hpe2 : 0 ≤ pe ∧ pe ≤ 3 := by simpa [peOK] using hpe
    clear hg h0 hpe
    obtain ⟨pb, off, rfl, hlt, c0, c1, c2⟩ := (HP.out.below (below_alloc w (.cells #[.string tx, .int .i64 pe, .int .i64 ac, .slice po pn pc, .string ky, .int .i64 ct, cv] 119))).ex
    simp only [] at c0 c1 c2
    go_enter Tryz.func89, Tryz.ntmps89
    go_wp2_with fail
    clear c0 c1 c2 hlt HP
    go_loopw [6, 7] (fun wv n wr => ∃ (a : Int) (k : Nat), wv = .int .i64 a ∧ n = .int .i64 ((k : Int) - 1) ∧ k ≤ 17 ∧ 0 ≤ a ∧ a ≤ 4 ∧ Below ((w.alloc (.cells #[.string tx, .int .i64 pe, .int .i64 ac, .slice (some ⟨pb, off, none⟩) pn pc, .string ky, .int .i64 ct, cv] 119)).alloc (.cells #[.int .i64 (b : Int), .int .i64 (L : Int)] 39)).heap.size ((w.alloc (.cells #[.string tx, .int .i64 pe, .int .i64 ac, .slice (some ⟨pb, off, none⟩) pn pc, .string ky, .int .i64 ct, cv] 119)).alloc (.cells #[.int .i64 (b : Int), .int .i64 (L : Int)] 39)) wr ∧ Hid (who rts (b : Int) L = if a = 4 then whoK rts (b : Int) k else a)) (fun _ n _ => (intOf n + 1).toNat)
    case atStart => exact ⟨4, L + 1, rfl, by congr 1; omega, by omega, by omega, by omega, Below.refl _ _, rfl⟩
    case round =>
      obtain ⟨a, k, rfl, rfl, hk, a0, a4, hbel, H⟩ := hrel
      have hb1 := below_first hbel
      have hb0 := below_first hb1
      obtain ⟨d0, d1, dz⟩ := cells_pr hbel
      obtain ⟨s1, s3, sz⟩ := cells_7 hb1
      simp only [World.size_alloc] at d0 d1 dz
      have hgr := HG.out.below hb0
      by_cases hgo : 0 < k ∧ a = 4
      · obtain ⟨k0, rfl⟩ := hgo
        obtain ⟨j, rfl⟩ : ∃ j, k = j + 1 := ⟨k - 1, by omega⟩
        have e1 : ((j + 1 : Nat) : Int) - 1 = (j : Int) := by omega
        rw [e1]
        have HN : Hid (who rts (b : Int) L = if best rts (cutB (b : Int) (j : Int)) (j : Int) = 4 then whoK rts (b : Int) j else best rts (cutB (b : Int) (j : Int)) (j : Int)) := by
          show _ = _
          rw [H.out, if_pos rfl]
          exact who_step rts (b : Int) j
        have hbb := best_bd rts (cutB (b : Int) (j : Int)) (j : Int)
        clear H e1
        have g1 : decide ((0 : Int) ≤ (j : Int)) = true := by simp
        go_wp2_with fail
        refine (cut_any b j _ _ (by omega) (by omega)).mono ?_
        rintro e w1 ⟨rfl, hc1⟩
        have hgr1 := hgr.below hc1
        go_wp2_with fail
        refine (hgr1.best _ _).mono ?_
        rintro e w2 ⟨rfl, hc2⟩
        generalize best rts (cutB (b : Int) (j : Int)) (j : Int) = bb at *
        have hz := hbel.size
        have hz1 := hc1.size
        go_wp2_with fail
        go_roundw
        case rel => exact ⟨bb, j, rfl, by go_num, by omega, by omega, by omega, hbel.trans ((hc1.trans (hc2.mono hz1)).mono hz), HN⟩
        case measure => simp [intOf]
      · by_cases ha : a = 4
        · subst ha
          obtain rfl : k = 0 := by omega
          have HF : Hid (holdsP c rts ⟨1, (b : Int), (L : Int), ts⟩ pe = false) := by
            show _ = _
            rw [HS.out, H.out, if_pos rfl]
            rfl
          clear H HS hgr HG
          go_wp2_with fail
          go_quiet (fail)
          go_wp2_with fail
          go_ret
          exact ⟨by rw [HF.out]; rfl, below_drewN hb0 _⟩
        · have HW : Hid (who rts (b : Int) L = a) := by show _ = _; rw [H.out, if_neg ha]
          have b4 : (a == 4) = false := by simpa using ha
          have HV : Hid (holdsP c rts ⟨1, (b : Int), (L : Int), ts⟩ pe = (decide (netF c a = netF c pe) && below c rts (b : Int) (L : Int) pe)) := by
            show _ = _
            rw [HS.out, HW.out, decide_eq_false ha]
            rfl
          clear H HS HW hgo
          obtain ⟨A, rfl⟩ := Int.eq_ofNat_of_zero_le a0
          obtain ⟨P, hP⟩ := Int.eq_ofNat_of_zero_le hpe2.1
          have hA : A < 4 := by omega
          have hP4 : P < 4 := by omega
          have n1 := hgr.net A hA
          have n2 := hgr.net P hP4
          have i1 : (A : Int) < 4 := by omega
          by_cases hne : netF c (A : Int) = netF c (P : Int)
          · have HB : Hid (holdsP c rts ⟨1, (b : Int), (L : Int), ts⟩ pe = below c rts (b : Int) (L : Int) pe) := by
              show _ = _
              rw [HV.out, hP]
              rw [decide_eq_true hne]
              rfl
            have hx : (netF c (A : Int) != netF c (P : Int)) = false := by simpa using hne
            have H0 : Hid (below c rts (b : Int) (L : Int) pe = (rts.drop 0).all (bel1 c rts (b : Int) (L : Int) pe)) := rfl
            subst hP
            clear HV hne
            generalize hX : netF c (A : Int) = x1 at *
            clear hX
            go_wp2_with fail
            all_goals
              go_quiet (fail)
              go_wp2_with fail
              clear d0 d1 dz s1 s3 sz n1 n2
              go_loopw [8] (fun x wr2 => ∃ i : Nat, x = .int .i64 i ∧ i ≤ rts.length ∧ Below ((w.alloc (.cells #[.string tx, .int .i64 (P : Int), .int .i64 ac, .slice (some ⟨pb, off, none⟩) pn pc, .string ky, .int .i64 ct, cv] 119)).alloc (.cells #[.int .i64 (b : Int), .int .i64 (L : Int)] 39)).heap.size ((w.alloc (.cells #[.string tx, .int .i64 (P : Int), .int .i64 ac, .slice (some ⟨pb, off, none⟩) pn pc, .string ky, .int .i64 ct, cv] 119)).alloc (.cells #[.int .i64 (b : Int), .int .i64 (L : Int)] 39)) wr2 ∧ Hid (below c rts (b : Int) (L : Int) (P : Int) = (rts.drop i).all (bel1 c rts (b : Int) (L : Int) (P : Int)))) (fun x _ => rts.length - (intOf x).toNat)
              case atStart => exact ⟨0, rfl, Nat.zero_le _, below_drewN hbel _, H0⟩
              case round =>
                clear H0 hgr hbel hb1 hb0
                obtain ⟨i, rfl, hi, hbel, H⟩ := hrel
                have hb1 := below_first hbel
                have hb0 := below_first hb1
                obtain ⟨d0, d1, dz⟩ := cells_pr hbel
                obtain ⟨s1, s3, sz⟩ := cells_7 hb1
                simp only [World.size_alloc] at d0 d1 dz
                have hgr := HG.out.below hb0
                have k6 := hgr.rv
                have h24 := hgr.r24
                by_cases hlt : i < rts.length
                · obtain ⟨rk, ro, rfl, bz, c0, c1, c2, c3⟩ := hgr.rin i hlt
                  have hd : rts.drop i = rts[i] :: rts.drop (i + 1) := List.drop_eq_getElem_cons hlt
                  obtain ⟨k1, k2, k3⟩ := hgr.ok rts[i] (List.getElem_mem hlt)
                  have hb3 := best_some (List.getElem_mem hlt) k1 k3
                  have hb3' := best_bd rts rts[i].bt rts[i].ln
                  rw [hd, List.all_cons] at H
                  clear hd k1 k3
                  generalize rts[i] = r at *
                  obtain ⟨rpe, rbt, rln, rpa⟩ := r
                  simp only [] at c0 c1 c2 c3 k2 hb3 hb3'
                  obtain ⟨m0, m1, q0, q1, _⟩ := prefOK_bd k2
                  clear k2
                  obtain ⟨q, rfl⟩ := Int.eq_ofNat_of_zero_le q0
                  obtain ⟨M, rfl⟩ := Int.eq_ofNat_of_zero_le m0
                  have hz := hbel.size
                  simp only [World.size_alloc] at hz
                  by_cases hLM : L < M
                  · have g1 : decide ((L : Int) < (M : Int)) = true := by simp; omega
                    obtain ⟨W0, hW0⟩ : ∃ W0, W0 = wr.alloc (.cells #[.int .i64 (q : Int), .int .i64 (M : Int)] 39) := ⟨_, rfl⟩
                    have bb1 : Below (wr.alloc (.cells #[.int .i64 (q : Int), .int .i64 (M : Int)] 39)).heap.size (wr.alloc (.cells #[.int .i64 (q : Int), .int .i64 (M : Int)] 39)) W0 := by rw [hW0]; exact Below.refl _ _
                    obtain ⟨t0, t1, tz⟩ := cells_pr bb1
                    have bbw := below_first bb1
                    have u0 := (bbw.cell (p := ⟨w.heap.size + 1, 0, none⟩) dz).trans d0
                    have u1 := (bbw.cell (p := ⟨w.heap.size + 1, 1, none⟩) dz).trans d1
                    have dz0 : w.heap.size + 1 < W0.heap.size := by have := bbw.size; omega
                    have HK : Hid (∀ w' : World, Below W0.heap.size W0 w' → w'.cell? ⟨wr.heap.size, 0, none⟩ = some (.int .i64 (q : Int)) ∧ w'.cell? ⟨wr.heap.size, 1, none⟩ = some (.int .i64 (M : Int)) ∧ w'.cell? ⟨w.heap.size + 1, 0, none⟩ = some (.int .i64 (b : Int)) ∧ w'.cell? ⟨w.heap.size + 1, 1, none⟩ = some (.int .i64 (L : Int)) ∧ Below W0.heap.size W0 w') := fun w' hx =>
                      ⟨(hx.cell tz).trans t0, (hx.cell tz).trans t1, (hx.cell dz0).trans u0, (hx.cell dz0).trans u1, hx⟩
                    have HW : Hid (W0 = wr.alloc (.cells #[.int .i64 (q : Int), .int .i64 (M : Int)] 39)) := hW0
                    have hbelW : Below ((w.alloc (.cells #[.string tx, .int .i64 (P : Int), .int .i64 ac, .slice (some ⟨pb, off, none⟩) pn pc, .string ky, .int .i64 ct, cv] 119)).alloc (.cells #[.int .i64 (b : Int), .int .i64 (L : Int)] 39)).heap.size ((w.alloc (.cells #[.string tx, .int .i64 (P : Int), .int .i64 ac, .slice (some ⟨pb, off, none⟩) pn pc, .string ky, .int .i64 ct, cv] 119)).alloc (.cells #[.int .i64 (b : Int), .int .i64 (L : Int)] 39)) W0 := hbel.trans (bbw.mono (by simp; omega))
                    clear t0 t1 u0 u1 bb1 hW0
                    by_cases hc : cutB (q : Int) (L : Int) = (b : Int)
                    · have e1 : (cutB (q : Int) (L : Int) == (b : Int)) = true := by simpa using hc
                      by_cases hnn : netF c (best rts (q : Int) (M : Int)) = netF c (P : Int)
                      · have HN : Hid (below c rts (b : Int) (L : Int) (P : Int) = (rts.drop (i + 1)).all (bel1 c rts (b : Int) (L : Int) (P : Int))) := by
                          show _ = _
                          rw [H.out]
                          have : bel1 c rts (b : Int) (L : Int) (P : Int) ⟨rpe, (q : Int), (M : Int), rpa⟩ = true := by unfold bel1; simp only [hnn, decide_true, Bool.or_true]
                          rw [this]; rfl
                        have hxx : (netF c (best rts (q : Int) (M : Int)) != netF c (P : Int)) = false := by simpa using hnn
                        have HCUT : Hid (∀ w, Below W0.heap.size W0 w → Calls Tryz.prog 111 #[.agg #[.int .i64 (q : Int), .int .i64 (M : Int)], .int .i64 (L : Int)] w fun e w' => e = .returned (.agg #[.int .i64 (cutB q L), .int .i64 (L : Int)]) ∧ Below W0.heap.size W0 w') := fun w h => cut_b q L _ w W0 (by omega) (by omega) h
                        have HGR : Hid (GRead W0 g c (some ⟨rk, ro, none⟩) cap rts) := hgr.below bbw
                        have hs1 := (bbw.cell (p := ⟨w.heap.size, 1, none⟩) sz).trans s1
                        have sz0 : w.heap.size < W0.heap.size := by omega
                        clear H hc hnn HB HG hgr s1 s3
                        generalize cutB (q : Int) (L : Int) = cu at *
                        go_wp2_with fail
                        rw [← HW.out]
                        clear HW
                        go_region_held3 (fun w' => w'.cell? ⟨wr.heap.size, 0, none⟩ = some (.int .i64 (q : Int)) ∧ w'.cell? ⟨wr.heap.size, 1, none⟩ = some (.int .i64 (M : Int)) ∧ w'.cell? ⟨w.heap.size + 1, 0, none⟩ = some (.int .i64 (b : Int)) ∧ w'.cell? ⟨w.heap.size + 1, 1, none⟩ = some (.int .i64 (L : Int)) ∧ Below W0.heap.size W0 w')
                          (first | exact HK.out _ (by assumption) | exact HK.out _ (Below.refl _ _).drew)
                          (first | (go_at_call 111; refine (HCUT.out _ (by go_split_ands; assumption)).mono ?_; rintro e w1 ⟨rfl, hc1⟩))
                        have hgr1 := HGR.out.below hc1
                        obtain ⟨v0, v1, v2, v3, _⟩ := HK.out _ hc1
                        go_wp2_with fail
                        refine (hgr1.best _ _).mono ?_
                        rintro e w2 ⟨rfl, hc2⟩
                        have hgr2 := hgr1.below hc2
                        have hc3 : Below W0.heap.size W0 w2 := hc1.trans (hc2.mono hc1.size)
                        have p1 := (hc3.cell (p := ⟨w.heap.size, 1, none⟩) sz0).trans hs1
                        obtain ⟨Q, hQ⟩ := Int.eq_ofNat_of_zero_le hb3'.1
                        rw [hQ] at hxx hb3
                        rw [hQ]
                        have n1 := hgr2.net Q (by omega)
                        have n2 := hgr2.net P hP4
                        have hQ4 : (Q : Int) < 4 := by omega
                        clear hQ hgr1 hgr2 HGR hb3' HCUT HK v0 v1 v2 v3
                        generalize netF c (Q : Int) = y1 at *
                        go_wp2_with fail
                        go_quiet (fail)
                        go_wp2_with fail
                        go_roundw
                        case rel => exact ⟨i + 1, by go_num, by omega, below_drewN (hbelW.trans (hc3.mono (by have := hbelW.size; exact this))) _, HN⟩
                        case measure => simp [intOf]; omega
                      · have HF : Hid (holdsP c rts ⟨1, (b : Int), (L : Int), ts⟩ (P : Int) = false) := by
                          show _ = _
                          rw [HB.out, H.out]
                          have : bel1 c rts (b : Int) (L : Int) (P : Int) ⟨rpe, (q : Int), (M : Int), rpa⟩ = false := by unfold bel1; simp only [hnn, hc, g1, decide_true, decide_false, Bool.or_false, Bool.and_self, Bool.not_true]
                          rw [this]; rfl
                        have hxx : (netF c (best rts (q : Int) (M : Int)) != netF c (P : Int)) = true := by simpa using hnn
                        have HCUT : Hid (∀ w, Below W0.heap.size W0 w → Calls Tryz.prog 111 #[.agg #[.int .i64 (q : Int), .int .i64 (M : Int)], .int .i64 (L : Int)] w fun e w' => e = .returned (.agg #[.int .i64 (cutB q L), .int .i64 (L : Int)]) ∧ Below W0.heap.size W0 w') := fun w h => cut_b q L _ w W0 (by omega) (by omega) h
                        have HGR : Hid (GRead W0 g c (some ⟨rk, ro, none⟩) cap rts) := hgr.below bbw
                        have hs1 := (bbw.cell (p := ⟨w.heap.size, 1, none⟩) sz).trans s1
                        have sz0 : w.heap.size < W0.heap.size := by omega
                        clear H hc hnn HB HG hgr s1 s3
                        generalize cutB (q : Int) (L : Int) = cu at *
                        go_wp2_with fail
                        rw [← HW.out]
                        clear HW
                        go_region_held3 (fun w' => w'.cell? ⟨wr.heap.size, 0, none⟩ = some (.int .i64 (q : Int)) ∧ w'.cell? ⟨wr.heap.size, 1, none⟩ = some (.int .i64 (M : Int)) ∧ w'.cell? ⟨w.heap.size + 1, 0, none⟩ = some (.int .i64 (b : Int)) ∧ w'.cell? ⟨w.heap.size + 1, 1, none⟩ = some (.int .i64 (L : Int)) ∧ Below W0.heap.size W0 w')
                          (first | exact HK.out _ (by assumption) | exact HK.out _ (Below.refl _ _).drew)
                          (first | (go_at_call 111; refine (HCUT.out _ (by go_split_ands; assumption)).mono ?_; rintro e w1 ⟨rfl, hc1⟩))
                        have hgr1 := HGR.out.below hc1
                        obtain ⟨v0, v1, v2, v3, _⟩ := HK.out _ hc1
                        go_wp2_with fail
                        refine (hgr1.best _ _).mono ?_
                        rintro e w2 ⟨rfl, hc2⟩
                        have hgr2 := hgr1.below hc2
                        have hc3 : Below W0.heap.size W0 w2 := hc1.trans (hc2.mono hc1.size)
                        have p1 := (hc3.cell (p := ⟨w.heap.size, 1, none⟩) sz0).trans hs1
                        obtain ⟨Q, hQ⟩ := Int.eq_ofNat_of_zero_le hb3'.1
                        rw [hQ] at hxx hb3
                        rw [hQ]
                        have n1 := hgr2.net Q (by omega)
                        have n2 := hgr2.net P hP4
                        have hQ4 : (Q : Int) < 4 := by omega
                        clear hQ hgr1 hgr2 HGR hb3' HCUT HK v0 v1 v2 v3
                        generalize netF c (Q : Int) = y1 at *
                        go_wp2_with fail
                        go_quiet (fail)
                        go_wp2_with fail
                        go_ret
                        exact ⟨by rw [HF.out]; rfl, below_drewN (hb0.trans ((bbw.trans (hc3.mono (by omega))).mono (by omega))) _⟩
                    · have e1 : (cutB (q : Int) (L : Int) == (b : Int)) = false := by simpa using hc
                      have HN : Hid (below c rts (b : Int) (L : Int) (P : Int) = (rts.drop (i + 1)).all (bel1 c rts (b : Int) (L : Int) (P : Int))) := by
                        show _ = _
                        rw [H.out]
                        have : bel1 c rts (b : Int) (L : Int) (P : Int) ⟨rpe, (q : Int), (M : Int), rpa⟩ = true := by unfold bel1; simp only [hc, decide_false, Bool.and_false, Bool.not_false, Bool.true_or]
                        rw [this]; rfl
                      clear H hc hb3 hb3' HB HG
                      have HCUT : Hid (∀ w, Below W0.heap.size W0 w → Calls Tryz.prog 111 #[.agg #[.int .i64 (q : Int), .int .i64 (M : Int)], .int .i64 (L : Int)] w fun e w' => e = .returned (.agg #[.int .i64 (cutB q L), .int .i64 (L : Int)]) ∧ Below W0.heap.size W0 w') := fun w h => cut_b q L _ w W0 (by omega) (by omega) h
                      generalize cutB (q : Int) (L : Int) = cu at *
                      go_wp2_with fail
                      rw [← HW.out]
                      clear HW
                      go_region_held3 (fun w' => w'.cell? ⟨wr.heap.size, 0, none⟩ = some (.int .i64 (q : Int)) ∧ w'.cell? ⟨wr.heap.size, 1, none⟩ = some (.int .i64 (M : Int)) ∧ w'.cell? ⟨w.heap.size + 1, 0, none⟩ = some (.int .i64 (b : Int)) ∧ w'.cell? ⟨w.heap.size + 1, 1, none⟩ = some (.int .i64 (L : Int)) ∧ Below W0.heap.size W0 w')
                        (first | exact HK.out _ (by assumption) | exact HK.out _ (Below.refl _ _).drew)
                        (first | (go_at_call 111; refine (HCUT.out _ (by go_split_ands; assumption)).mono ?_; rintro e w1 ⟨rfl, hc1⟩))
                      go_wp2_with fail
                      go_roundw
                      case rel => exact ⟨i + 1, by go_num, by omega, hbelW.trans (hc1.mono (by have := hbelW.size; exact this)), HN⟩
                      case measure => simp [intOf]; omega
                  · have g1 : decide ((L : Int) < (M : Int)) = false := by simp; omega
                    have HN : Hid (below c rts (b : Int) (L : Int) (P : Int) = (rts.drop (i + 1)).all (bel1 c rts (b : Int) (L : Int) (P : Int))) := by
                      show _ = _
                      rw [H.out]
                      have : bel1 c rts (b : Int) (L : Int) (P : Int) ⟨rpe, (q : Int), (M : Int), rpa⟩ = true := by unfold bel1; simp only [g1, Bool.false_and, Bool.not_false, Bool.true_or]
                      rw [this]; rfl
                    clear H hb3 hb3' HB HG
                    go_wp2_with fail
                    go_quiet (fail)
                    go_wp2_with fail
                    go_roundw
                    case rel => exact ⟨i + 1, by go_num, by omega, below_drewN (hbel.alloc (by simp; omega) _) _, HN⟩
                    case measure => simp [intOf]; omega
                · have HF : Hid (holdsP c rts ⟨1, (b : Int), (L : Int), ts⟩ (P : Int) = true) := by
                    show _ = _
                    rw [HB.out, H.out, List.drop_of_length_le (by omega)]
                    rfl
                  clear H HG hgr HB
                  go_wp2_with fail
                  go_ret
                  exact ⟨by rw [HF.out]; rfl, hb0⟩
          · have HF : Hid (holdsP c rts ⟨1, (b : Int), (L : Int), ts⟩ pe = false) := by
              show _ = _
              rw [HV.out, hP]
              rw [decide_eq_false hne]
              rfl
            have hx : (netF c (A : Int) != netF c (P : Int)) = true := by simpa using hne
            clear HV hne HG hgr
            subst hP
            generalize netF c (A : Int) = x1 at *
            generalize netF c (P : Int) = x2 at *
            go_wp2_with fail
            all_goals
              go_quiet (fail)
              go_wp2_with fail
              go_ret
              exact ⟨by rw [HF.out]; rfl, below_drewN hb0 _⟩
  · have HF : Hid (holdsP c rts p pe = false) := holdsP_no hty
    obtain ⟨b, off, rfl, hlt, c0, c1, c2⟩ := (h0.below (below_alloc w (.cells #[.string tx, .int .i64 pe, .int .i64 ac, .slice po pn pc, .string ky, .int .i64 ct, cv] 119))).ex
    have hb : (p.ty != 1) = true := by simpa using hty
    clear hty hg h0
    go_enter Tryz.func89, Tryz.ntmps89
    go_wp2_with fail
    go_ret
    exact ⟨by rw [HF.out]; rfl, below_alloc _ _⟩
end Go.Proofs.YtgkiknfpcbcnnaaGreat
