import Derived.Test.YtgkiknfpcbcnnaaGreatGk
namespace Go.Proofs.YtgkiknfpcbcnnaaGreat
open Go.RowKit
set_option maxRecDepth 20000
def anyB (f : Nat → Bool) (lo : Nat) : Nat → Bool
  | 0 => false
  | n + 1 => anyB f lo n || f (lo + n)
theorem anyB_iff (f : Nat → Bool) (lo : Nat) : ∀ n, anyB f lo n = true ↔ ∃ v, lo ≤ v ∧ v < lo + n ∧ f v = true := by
  intro n
  induction n with
  | zero => simp only [anyB, Bool.false_eq_true, false_iff]; rintro ⟨v, h1, h2, _⟩; omega
  | succ n ih =>
    simp only [anyB, Bool.or_eq_true, ih]
    constructor
    · rintro (⟨v, h1, h2, h3⟩ | h)
      · exact ⟨v, h1, by omega, h3⟩
      · exact ⟨lo + n, by omega, by omega, h⟩
    · rintro ⟨v, h1, h2, h3⟩
      by_cases hv : v = lo + n
      · exact .inr (by rw [← hv]; exact h3)
      · exact .inl ⟨v, h1, by omega, h3⟩
theorem anyB_not {f : Nat → Bool} {lo n v : Nat} (h : anyB f lo n = false) (h1 : lo ≤ v) (h2 : v < lo + n) : f v = false := by
  cases hf : f v
  · rfl
  · have := (anyB_iff f lo n).2 ⟨v, h1, h2, hf⟩
    rw [h] at this; cases this
def yesB (f : Nat → Bool) (n x : Nat) : Bool := anyB f (x * 2 ^ n) (2 ^ n)
def noB (f : Nat → Bool) (n x : Nat) : Bool := anyB (fun v => !f v) (x * 2 ^ n) (2 ^ n)
def covS (f : Nat → Bool) : Nat → List UInt8 → Nat → List (List UInt8)
  | 0, pre, x => if f x then [pre] else []
  | n + 1, pre, x => if yesB f (n + 1) x then (if noB f (n + 1) x then covS f n (pre ++ [48]) (2 * x) ++ covS f n (pre ++ [49]) (2 * x + 1) else [pre ++ List.replicate (n + 1) 42]) else []
theorem covS_pre (f : Nat → Bool) : ∀ (n : Nat) (pre : List UInt8) (x : Nat), ∀ b ∈ covS f n pre x, ∃ r, b = pre ++ r ∧ r.length = n := by
  intro n
  induction n with
  | zero =>
    intro pre x b hb
    simp only [covS] at hb
    split at hb
    · simp only [List.mem_singleton] at hb; exact ⟨[], by simp [hb], rfl⟩
    · simp at hb
  | succ n ih =>
    intro pre x b hb
    simp only [covS] at hb
    split at hb
    · split at hb
      · rw [List.mem_append] at hb
        rcases hb with hb | hb
        · obtain ⟨r, rfl, hr⟩ := ih _ _ b hb
          exact ⟨48 :: r, by simp, by simp [hr]⟩
        · obtain ⟨r, rfl, hr⟩ := ih _ _ b hb
          exact ⟨49 :: r, by simp, by simp [hr]⟩
      · simp only [List.mem_singleton] at hb
        exact ⟨_, hb, by simp⟩
    · simp at hb
def fitL : List UInt8 → List UInt8 → Bool
  | [], [] => true
  | a :: x, b :: y => (a == 42 || a == b) && fitL x y
  | _, _ => false
end Go.Proofs.YtgkiknfpcbcnnaaGreat
namespace Go.Proofs.YtgkiknfpcbcnnaaGreat
open Go.RowKit
set_option maxRecDepth 20000
theorem gR_congr {k v v' : Int} : ∀ {ts : List Tm}, (∀ t ∈ ts, tmH k t v = tmH k t v') → gR k v ts = gR k v' ts := by
  intro ts
  induction ts with
  | nil => intro _; rfl
  | cons t r ih => intro h; simp only [gR]; rw [h t (by simp), ih (fun x hx => h x (by simp [hx]))]
theorem gH_congr {k v v' : Int} : ∀ {ts : List Tm}, (∀ t ∈ ts, tmH k t v = tmH k t v') → gH k v ts = gH k v' ts := by
  intro ts
  induction ts with
  | nil => intro _; rfl
  | cons t r ih => intro h; simp only [gH]; rw [h t (by simp), ih (fun x hx => h x (by simp [hx])), gR_congr (fun x hx => h x (by simp [hx]))]
theorem tH_step (op vl v : Int) (h1 : v + 1 ≠ vl) (h2 : v + 1 ≠ vl + 1) : tH op vl (v + 1) = tH op vl v := by
  unfold tH
  have a : decide (v + 1 < vl) = decide (v < vl) := decide_eq_decide.2 (by omega)
  have b : decide (vl < v + 1) = decide (vl < v) := decide_eq_decide.2 (by omega)
  have c : decide (v + 1 = vl) = decide (v = vl) := decide_eq_decide.2 (by omega)
  rw [a, b, c]
def Stp (g : Int → Bool) (ts : List Tm) : Prop := ∀ v : Int, (∀ t ∈ ts, v + 1 ≠ t.vl ∧ v + 1 ≠ t.vl + 1) → g (v + 1) = g v
theorem gH_stp (k : Int) (hk : k ≠ 5) (ts : List Tm) : Stp (fun v => gH k v ts) ts := by
  intro v h
  refine gH_congr fun t ht => ?_
  unfold tmH
  rw [if_neg hk, if_neg hk]
  exact tH_step _ _ _ (h t ht).1 (h t ht).2
theorem Stp.not {g : Int → Bool} {ts : List Tm} (h : Stp g ts) : Stp (fun v => !g v) ts := fun v hv => by
  show (!g (v + 1)) = !g v
  rw [h v hv]
def pv (ts : List Tm) (i : Nat) : Int := ((ts[i / 2]?).map (·.vl)).getD 0 + ((i % 2 : Nat) : Int)
def ptB (g : Int → Bool) (lo hi v : Int) : Bool := decide (lo < v) && decide (v ≤ hi) && g v
def ptsB (g : Int → Bool) (lo hi : Int) (ts : List Tm) : Nat → Bool
  | 0 => false
  | i + 1 => ptsB g lo hi ts i || ptB g lo hi (pv ts i)
theorem ptsB_iff (g : Int → Bool) (lo hi : Int) (ts : List Tm) : ∀ n, ptsB g lo hi ts n = true ↔ ∃ i < n, ptB g lo hi (pv ts i) = true := by
  intro n
  induction n with
  | zero => simp [ptsB]
  | succ n ih =>
    simp only [ptsB, Bool.or_eq_true, ih]
    constructor
    · rintro (⟨i, h1, h2⟩ | h)
      · exact ⟨i, by omega, h2⟩
      · exact ⟨n, by omega, h⟩
    · rintro ⟨i, h1, h2⟩
      by_cases hi : i = n
      · subst hi; exact .inr h2
      · exact .inl ⟨i, by omega, h2⟩
theorem pv_even (ts : List Tm) (q : Nat) (h : q < ts.length) : pv ts (2 * q) = ts[q].vl := by
  unfold pv
  have e1 : 2 * q / 2 = q := by omega
  have e2 : 2 * q % 2 = 0 := by omega
  rw [e1, e2, List.getElem?_eq_getElem h]
  simp
theorem pv_odd (ts : List Tm) (q : Nat) (h : q < ts.length) : pv ts (2 * q + 1) = ts[q].vl + 1 := by
  unfold pv
  have e1 : (2 * q + 1) / 2 = q := by omega
  have e2 : (2 * q + 1) % 2 = 1 := by omega
  rw [e1, e2, List.getElem?_eq_getElem h]
  simp
theorem pts_reach {g : Int → Bool} {ts : List Tm} (hs : Stp g ts) (lo hi : Int) : ∀ n : Nat, lo + n ≤ hi → g (lo + n) = true → (g lo || ptsB g lo hi ts (2 * ts.length)) = true := by
  intro n
  induction n with
  | zero => intro _ h; simp at h; simp [h]
  | succ n ih =>
    intro hle h
    by_cases hp : ∀ t ∈ ts, (lo + n) + 1 ≠ t.vl ∧ (lo + n) + 1 ≠ t.vl + 1
    · have e := hs (lo + n) hp
      have e2 : lo + ((n + 1 : Nat) : Int) = lo + n + 1 := by omega
      rw [e2, e] at h
      exact ih (by omega) h
    · have hp' : ∃ t ∈ ts, (lo + n) + 1 = t.vl ∨ (lo + n) + 1 = t.vl + 1 := by
        apply Classical.byContradiction
        intro hc
        exact hp fun t ht => ⟨fun h1 => hc ⟨t, ht, .inl h1⟩, fun h1 => hc ⟨t, ht, .inr h1⟩⟩
      obtain ⟨t, ht, hv⟩ := hp'
      obtain ⟨q, hq, rfl⟩ := List.getElem_of_mem ht
      have e2 : lo + ((n + 1 : Nat) : Int) = lo + n + 1 := by omega
      rw [e2] at h hle
      have hpt : ptB g lo hi (lo + n + 1) = true := by
        unfold ptB
        rw [h]
        simp
        omega
      have : ptsB g lo hi ts (2 * ts.length) = true := by
        rw [ptsB_iff]
        rcases hv with hv | hv
        · exact ⟨2 * q, by omega, by rw [pv_even ts q hq, ← hv]; exact hpt⟩
        · exact ⟨2 * q + 1, by omega, by rw [pv_odd ts q hq, ← hv]; exact hpt⟩
      rw [this]; simp
theorem pts_all {g : Int → Bool} {ts : List Tm} (hs : Stp g ts) (lo hi : Nat) (h : lo ≤ hi) : (g lo || ptsB g lo hi ts (2 * ts.length)) = anyB (fun n => g n) lo (hi + 1 - lo) := by
  rw [Bool.eq_iff_iff, anyB_iff]
  constructor
  · intro hh
    rw [Bool.or_eq_true, ptsB_iff] at hh
    rcases hh with hh | ⟨i, _, hi2⟩
    · exact ⟨lo, by omega, by omega, hh⟩
    · unfold ptB at hi2
      simp only [Bool.and_eq_true, decide_eq_true_eq] at hi2
      obtain ⟨v, hv⟩ := Int.eq_ofNat_of_zero_le (a := pv ts i) (by omega)
      rw [hv] at hi2
      exact ⟨v, by omega, by omega, hi2.2⟩
  · rintro ⟨v, h1, h2, h3⟩
    have e : ((lo : Int) + ((v - lo : Nat) : Int)) = (v : Int) := by omega
    exact pts_reach hs lo hi (v - lo) (by omega) (by rw [e]; exact h3)
theorem pts_more {g : Int → Bool} {ts : List Tm} (lo hi : Nat) (h : lo ≤ hi) (n : Nat) : ((g lo || anyB (fun n => g n) lo (hi + 1 - lo)) || ptsB g lo hi ts n) = anyB (fun n => g n) lo (hi + 1 - lo) := by
  rw [Bool.eq_iff_iff, anyB_iff]
  constructor
  · intro hh
    rw [Bool.or_eq_true, Bool.or_eq_true, ptsB_iff, anyB_iff] at hh
    rcases hh with (hh | hh) | ⟨i, _, hi2⟩
    · exact ⟨lo, by omega, by omega, hh⟩
    · exact hh
    · unfold ptB at hi2
      simp only [Bool.and_eq_true, decide_eq_true_eq] at hi2
      obtain ⟨v, hv⟩ := Int.eq_ofNat_of_zero_le (a := pv ts i) (by omega)
      rw [hv] at hi2
      exact ⟨v, by omega, by omega, hi2.2⟩
  · intro hh
    rw [Bool.or_eq_true, Bool.or_eq_true, anyB_iff]
    exact .inl (.inr hh)
end Go.Proofs.YtgkiknfpcbcnnaaGreat
namespace Go.Proofs.YtgkiknfpcbcnnaaGreat
open Go.RowKit
set_option maxRecDepth 20000
theorem holds_b (p : Pt) (ao : Option Addr) (cap : Nat) (v : Int) (w W0 : World) (hlen : p.ts.length ≤ 8) (hall : allT p.ty true p.ts = true) (hv : p.ty = 5 → 0 ≤ v ∧ v ≤ 255) (ht : TermsIn W0 ao p.ts) (hb : Below W0.heap.size W0 w) :
    Calls Tryz.prog 131 #[.agg #[.int .i64 p.ty, .int .i64 p.bt, .int .i64 p.ln, .slice ao p.ts.length cap], .int .i64 v] w fun e w' => e = .returned (.bool (gH p.ty v p.ts)) ∧ Below w.heap.size w w' :=
  holds_any p ao cap v w hlen hall hv (ht.below hb)
set_option maxHeartbeats 2000000 in
theorem mixed_any (p : Pt) (lo hi : Nat) (ao : Option Addr) (cap : Nat) (w : World) (hlh : lo ≤ hi) (hhi : hi ≤ 65535) (h5 : p.ty = 5 → hi ≤ 255) (hlen : p.ts.length ≤ 8) (hall : allT p.ty true p.ts = true) (ht : TermsIn w ao p.ts) :
    Calls Tryz.prog 120 #[.agg #[.int .i64 p.ty, .int .i64 p.bt, .int .i64 p.ln, .slice ao p.ts.length cap], .int .i64 lo, .int .i64 hi] w fun e w' => e = .returned (.tuple #[.bool (anyB (fun n => gH p.ty n p.ts) lo (hi + 1 - lo)), .bool (anyB (fun n => !gH p.ty n p.ts) lo (hi + 1 - lo))]) ∧ Below w.heap.size w w' := by
  have HT : Hid (TermsIn w ao p.ts) := ht
  clear ht
  have hl5 : p.ty = 5 → 0 ≤ (lo : Int) ∧ (lo : Int) ≤ 255 := fun h => by have := h5 h; omega
  go_enter Tryz.func120, Tryz.ntmps120
  go_wp2_with (go_at_call 131; refine (holds_any p _ _ _ _ hlen hall hl5 (HT.out.below (below_alloc _ _))).mono ?_; rintro e w1 ⟨rfl, hb1⟩)
  go_loopw [8, 9, 10] (fun yy nn x wr => ∃ (j : Nat) (y n : Bool), x = .int .i64 ((lo + j : Nat) : Int) ∧ yy = .bool y ∧ nn = .bool n ∧ lo + j ≤ hi + 1 ∧ (p.ty ≠ 5 → j = 0) ∧ Below (w.alloc (.cells #[.int .i64 p.ty, .int .i64 p.bt, .int .i64 p.ln, .slice ao p.ts.length cap] 140)).heap.size (w.alloc (.cells #[.int .i64 p.ty, .int .i64 p.bt, .int .i64 p.ln, .slice ao p.ts.length cap] 140)) wr ∧ Hid (y = (gH p.ty lo p.ts || anyB (fun n => gH p.ty n p.ts) lo j)) ∧ Hid (n = ((!gH p.ty lo p.ts) || anyB (fun n => !gH p.ty n p.ts) lo j))) (fun _ _ x _ => hi + 1 - (intOf x).toNat)
  case atStart => exact ⟨0, _, _, by simp, rfl, rfl, by omega, fun _ => rfl, hb1, by show _ = _; simp [anyB], by show _ = _; simp [anyB]⟩
  case round =>
    obtain ⟨j, y, n, rfl, rfl, rfl, hj, hj0, hbel, HY, HN⟩ := hrel
    clear hb1
    obtain ⟨a0, a1, a2, a3, af, az⟩ := cells_of_below hbel
    have hb0 := below_first hbel
    have hz := hbel.size
    by_cases hc : p.ty = 5 ∧ lo + j ≤ hi
    · obtain ⟨hty, hle⟩ := hc
      have hv5 : p.ty = 5 → 0 ≤ ((lo + j : Nat) : Int) ∧ ((lo + j : Nat) : Int) ≤ 255 := fun h => by have := h5 h; omega
      have hbe : (p.ty == 5) = true := by simpa using hty
      have HY2 : Hid ((y || gH p.ty ((lo + j : Nat) : Int) p.ts) = (gH p.ty lo p.ts || anyB (fun n => gH p.ty n p.ts) lo (j + 1))) := by
        show _ = _; rw [HY.out]; simp only [anyB, Bool.or_assoc]
      have HN2 : Hid ((n || !gH p.ty ((lo + j : Nat) : Int) p.ts) = ((!gH p.ty lo p.ts) || anyB (fun n => !gH p.ty n p.ts) lo (j + 1))) := by
        show _ = _; rw [HN.out]; simp only [anyB, Bool.or_assoc]
      have hjn : p.ty ≠ 5 → j + 1 = 0 := fun h => absurd hty h
      have d1 : decide (((lo + j : Nat) : Int) ≤ (hi : Int)) = true := by simp; omega
      clear HY HN hj0 hty
      generalize hx : lo + j = x at *
      cases y <;> cases n
      all_goals
        go_wp2_with (go_at_call 131; refine (holds_b p _ _ _ _ w hlen hall hv5 HT.out hb0).mono ?_; rintro e w2 ⟨rfl, hb2⟩)
        go_roundw
        case rel => exact ⟨j + 1, _, _, by rw [← hx]; go_num, rfl, rfl, by omega, hjn, hbel.trans (hb2.mono hz), HY2, HN2⟩
        case measure => simp [intOf]; omega
    · have HY2 : Hid ((y || ptsB (fun v => gH p.ty v p.ts) lo hi p.ts (2 * p.ts.length)) = anyB (fun n => gH p.ty n p.ts) lo (hi + 1 - lo)) := by
        show _ = _
        rw [HY.out]
        by_cases hty : p.ty = 5
        · have : j = hi + 1 - lo := by have : ¬ lo + j ≤ hi := fun h => hc ⟨hty, h⟩; omega
          subst this
          exact pts_more (g := fun v => gH p.ty v p.ts) lo hi hlh _
        · obtain rfl := hj0 hty
          simp only [anyB, Bool.or_false]
          exact pts_all (gH_stp p.ty hty p.ts) lo hi hlh
      have HN2 : Hid ((n || ptsB (fun v => !gH p.ty v p.ts) lo hi p.ts (2 * p.ts.length)) = anyB (fun n => !gH p.ty n p.ts) lo (hi + 1 - lo)) := by
        show _ = _
        rw [HN.out]
        by_cases hty : p.ty = 5
        · have : j = hi + 1 - lo := by have : ¬ lo + j ≤ hi := fun h => hc ⟨hty, h⟩; omega
          subst this
          exact pts_more (g := fun v => !gH p.ty v p.ts) lo hi hlh _
        · obtain rfl := hj0 hty
          simp only [anyB, Bool.or_false]
          exact pts_all (gH_stp p.ty hty p.ts).not lo hi hlh
      have hcc : ((p.ty == 5) = false) ∨ ((p.ty == 5) = true ∧ decide (lo + j ≤ hi) = false) := by
        by_cases hty : p.ty = 5
        · right
          refine ⟨by simpa using hty, ?_⟩
          have : ¬ lo + j ≤ hi := fun h => hc ⟨hty, h⟩
          simp; omega
        · left; simpa using hty
      clear HY HN hj0 hc
      generalize lo + j = x at *
      rcases hcc with hbe | ⟨hbe, hde⟩
      all_goals
        go_wp2_with fail
        go_loopw [8, 9, 12] (fun yy nn x wr2 => ∃ (i : Nat) (y2 n2 : Bool), x = .int .i64 i ∧ yy = .bool y2 ∧ nn = .bool n2 ∧ i ≤ 2 * p.ts.length ∧ Below (w.alloc (.cells #[.int .i64 p.ty, .int .i64 p.bt, .int .i64 p.ln, .slice ao p.ts.length cap] 140)).heap.size (w.alloc (.cells #[.int .i64 p.ty, .int .i64 p.bt, .int .i64 p.ln, .slice ao p.ts.length cap] 140)) wr2 ∧ Hid (y2 = (y || ptsB (fun v => gH p.ty v p.ts) lo hi p.ts i)) ∧ Hid (n2 = (n || ptsB (fun v => !gH p.ty v p.ts) lo hi p.ts i))) (fun _ _ x _ => 2 * p.ts.length - (intOf x).toNat)
        case atStart => exact ⟨0, _, _, rfl, rfl, rfl, Nat.zero_le _, hbel, by show _ = _; simp [ptsB], by show _ = _; simp [ptsB]⟩
        case round =>
          obtain ⟨i, y2, n2, rfl, rfl, rfl, hi2, hbel2, HY3, HN3⟩ := hrel
          clear a0 a1 a2 a3 af az hz
          obtain ⟨a0, a1, a2, a3, af, az⟩ := cells_of_below hbel2
          have hb2 := below_first hbel2
          have hz := hbel2.size
          by_cases hlt : i < 2 * p.ts.length
          · have hq : i / 2 < p.ts.length := by omega
            obtain ⟨b, off, rfl, c0, c1, c2, c3⟩ := HT.out.below hb2 (i / 2) hq
            have hT := isT_op _ _ (allT_get _ _ _ hall (i / 2) hq)
            have hvb : p.ts[i / 2].vl ≤ 65535 := by have := hT.2.2.2.1; unfold mxV at this; split at this <;> omega
            have hv0 := hT.2.2.1
            have hpv : pv p.ts i = p.ts[i / 2].vl + ((i % 2 : Nat) : Int) := by unfold pv; rw [List.getElem?_eq_getElem hq]; rfl
            have HY4 : Hid ((y2 || ptB (fun v => gH p.ty v p.ts) lo hi (p.ts[i / 2].vl + ((i % 2 : Nat) : Int))) = (y || ptsB (fun v => gH p.ty v p.ts) lo hi p.ts (i + 1))) := by
              show _ = _; rw [HY3.out]; simp only [ptsB, hpv, Bool.or_assoc]
            have HN4 : Hid ((n2 || ptB (fun v => !gH p.ty v p.ts) lo hi (p.ts[i / 2].vl + ((i % 2 : Nat) : Int))) = (n || ptsB (fun v => !gH p.ty v p.ts) lo hi p.ts (i + 1))) := by
              show _ = _; rw [HN3.out]; simp only [ptsB, hpv, Bool.or_assoc]
            clear HY3 HN3 hpv hT c0 c1 c2 HY2 HN2
            generalize p.ts[i / 2].vl = vl at *
            have q1 : ((i : Int) / 2) = ((i / 2 : Nat) : Int) := by omega
            have q2 : ((i : Int) % 2) = ((i % 2 : Nat) : Int) := by omega
            have q3 : ((i / 2 : Nat) : Int) < (p.ts.length : Int) := by omega
            have q4 : i % 2 ≤ 1 := by omega
            generalize hqq : i / 2 = q at *
            generalize hrr : i % 2 = r at *
            clear hqq hrr
            by_cases hr1 : (lo : Int) < vl + (r : Int) ∧ vl + (r : Int) ≤ hi
            · obtain ⟨e1, e2⟩ := hr1
              have p1 : ptB (fun v => gH p.ty v p.ts) lo hi (vl + (r : Int)) = gH p.ty (vl + (r : Int)) p.ts := by unfold ptB; simp [e1, e2]
              have p2 : ptB (fun v => !gH p.ty v p.ts) lo hi (vl + (r : Int)) = !gH p.ty (vl + (r : Int)) p.ts := by unfold ptB; simp [e1, e2]
              rw [p1] at HY4
              rw [p2] at HN4
              clear p1 p2
              have hv5 : p.ty = 5 → 0 ≤ vl + (r : Int) ∧ vl + (r : Int) ≤ 255 := fun h => by have := h5 h; omega
              cases y2 <;> cases n2
              all_goals
                go_wp2_with (go_at_call 131; refine (holds_b p _ _ _ _ w hlen hall hv5 HT.out hb2).mono ?_; rintro e w3 ⟨rfl, hb3⟩)
                go_roundw
                case rel => exact ⟨i + 1, _, _, by go_num, rfl, rfl, by omega, hbel2.trans (hb3.mono hz), HY4, HN4⟩
                case measure => simp [intOf]; omega
            · have p1 : ∀ g : Int → Bool, ptB g lo hi (vl + (r : Int)) = false := fun g => by unfold ptB; by_cases e1 : (lo : Int) < vl + (r : Int) <;> by_cases e2 : vl + (r : Int) ≤ hi <;> simp [e1, e2] <;> exact absurd ⟨e1, e2⟩ hr1
              rw [p1, Bool.or_false] at HY4 HN4
              clear p1
              have hcc : decide ((lo : Int) < vl + (r : Int)) = false ∨ (decide ((lo : Int) < vl + (r : Int)) = true ∧ decide (vl + (r : Int) ≤ (hi : Int)) = false) := by
                by_cases e1 : (lo : Int) < vl + (r : Int)
                · right; refine ⟨by simpa using e1, ?_⟩; simp; omega
                · left; simpa using e1
              clear hr1
              rcases hcc with g1 | ⟨g1, g2⟩
              all_goals
                go_wp2
                go_roundw
                case rel => exact ⟨i + 1, _, _, by go_num, rfl, rfl, by omega, hbel2, HY4, HN4⟩
                case measure => simp [intOf]; omega
          · obtain rfl : i = 2 * p.ts.length := by omega
            have HY5 : Hid (anyB (fun n => gH p.ty n p.ts) lo (hi + 1 - lo) = y2) := by show _ = _; rw [HY3.out, HY2.out]
            have HN5 : Hid (anyB (fun n => !gH p.ty n p.ts) lo (hi + 1 - lo) = n2) := by show _ = _; rw [HN3.out, HN2.out]
            clear HY3 HN3 HY2 HN2
            go_wp2
            go_ret2
            exact ⟨by rw [HY5.out, HN5.out]; rfl, hb2⟩
end Go.Proofs.YtgkiknfpcbcnnaaGreat
