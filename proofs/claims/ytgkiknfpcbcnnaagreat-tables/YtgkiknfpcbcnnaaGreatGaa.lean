import Derived.Test.YtgkiknfpcbcnnaaGreatGn
import Derived.Test.YtgkiknfpcbcnnaaGreatGr
namespace Go.Proofs.YtgkiknfpcbcnnaaGreat
open Go.RowKit
set_option maxRecDepth 20000
structure Rt where
  pe : Int
  bt : Int
  ln : Int
  pa : Int
structure Rl where
  tx : ByteArray
  pe : Int
  ac : Int
structure Cf where
  cp : Int
  bu : Int
  n0 : Int
  n1 : Int
  n2 : Int
  n3 : Int
structure Gs where
  c : Cf
  rts : List Rt
  rls : List Rl
def netF (c : Cf) (p : Int) : Int := if p = 0 then c.n0 else if p = 1 then c.n1 else if p = 2 then c.n2 else c.n3
def cfOK (c : Cf) : Bool := isN (c.cp - 1) 127 && isN (c.bu - 1) 63 && isN (c.n0 - 1) 65534 && isN (c.n1 - 1) 65534 && isN (c.n2 - 1) 65534 && isN (c.n3 - 1) 65534
def rtNe (pe bt ln : Int) (r : Rt) : Bool := !(decide (r.pe = pe) && (decide (r.bt = bt) && decide (r.ln = ln)))
def rlNe (pe : Int) (tx : ByteArray) (r : Rl) : Bool := !(decide (r.pe = pe) && decide (r.tx = tx))
def peOK (pe : Int) : Bool := decide (0 ≤ pe) && decide (pe ≤ 3)
def paOK (pa : Int) : Bool := decide (1 ≤ pa) && decide (pa ≤ 255)
def anE (st : Gs) (pe bt ln pa : Int) : Int :=
  if peOK pe then (if prefOK bt ln then (if paOK pa then (if 24 ≤ (st.rts.filter (rtNe pe bt ln)).length then 10 else 0) else 8) else 7) else 6
def anS (st : Gs) (pe bt ln pa : Int) : Gs := if anE st pe bt ln pa = 0 then { st with rts := st.rts.filter (rtNe pe bt ln) ++ [⟨pe, bt, ln, pa⟩] } else st
def wiE (st : Gs) (pe bt ln : Int) : Int :=
  if peOK pe then (if prefOK bt ln then (if (st.rts.filter (rtNe pe bt ln)).length = st.rts.length then 11 else 0) else 7) else 6
def wiS (st : Gs) (pe bt ln : Int) : Gs := if wiE st pe bt ln = 0 then { st with rts := st.rts.filter (rtNe pe bt ln) } else st
def adE (st : Gs) (pe : Int) (tx : ByteArray) (ac : Int) : Int :=
  if peOK pe then (if (decS tx).isSome then (if paOK ac then (if 24 ≤ (st.rls.filter (rlNe pe tx)).length then 10 else 0) else 9) else 1) else 6
def adS (st : Gs) (pe : Int) (tx : ByteArray) (ac : Int) : Gs := if adE st pe tx ac = 0 then { st with rls := st.rls.filter (rlNe pe tx) ++ [⟨tx, pe, ac⟩] } else st
def reE (st : Gs) (pe : Int) (tx : ByteArray) : Int :=
  if peOK pe then (if (decS tx).isSome then (if (st.rls.filter (rlNe pe tx)).length = st.rls.length then 11 else 0) else 1) else 6
def reS (st : Gs) (pe : Int) (tx : ByteArray) : Gs := if reE st pe tx = 0 then { st with rls := st.rls.filter (rlNe pe tx) } else st
def rsE (pe : Int) : Int := if peOK pe then 0 else 6
def rsS (st : Gs) (pe : Int) : Gs := if peOK pe then { st with rts := st.rts.filter (fun r => !decide (r.pe = pe)), rls := st.rls.filter (fun r => !decide (r.pe = pe)) } else st
structure GsOK (st : Gs) : Prop where
  c : cfOK st.c = true
  r24 : st.rts.length ≤ 24
  l24 : st.rls.length ≤ 24
  rt : ∀ r ∈ st.rts, peOK r.pe = true ∧ prefOK r.bt r.ln = true ∧ paOK r.pa = true
  rl : ∀ r ∈ st.rls, peOK r.pe = true ∧ (decS r.tx).isSome = true ∧ paOK r.ac = true
  rtOnce : st.rts.Pairwise fun r q => ¬ (r.pe = q.pe ∧ r.bt = q.bt ∧ r.ln = q.ln)
  rlOnce : st.rls.Pairwise fun r q => ¬ (r.pe = q.pe ∧ r.tx = q.tx)
theorem rtNe_iff (pe bt ln : Int) (r : Rt) : rtNe pe bt ln r = true ↔ ¬ (r.pe = pe ∧ r.bt = bt ∧ r.ln = ln) := by
  unfold rtNe
  rw [Bool.not_eq_true', ← Bool.not_eq_true]
  simp only [Bool.and_eq_true, decide_eq_true_eq]
theorem rlNe_iff (pe : Int) (tx : ByteArray) (r : Rl) : rlNe pe tx r = true ↔ ¬ (r.pe = pe ∧ r.tx = tx) := by
  unfold rlNe
  rw [Bool.not_eq_true', ← Bool.not_eq_true]
  simp only [Bool.and_eq_true, decide_eq_true_eq]
theorem GsOK.new {c : Cf} (h : cfOK c = true) : GsOK ⟨c, [], []⟩ := ⟨h, by simp, by simp, by simp, by simp, List.Pairwise.nil, List.Pairwise.nil⟩
theorem anE_zero {st : Gs} {pe bt ln pa : Int} (h : anE st pe bt ln pa = 0) : peOK pe = true ∧ prefOK bt ln = true ∧ paOK pa = true ∧ (st.rts.filter (rtNe pe bt ln)).length < 24 := by
  unfold anE at h
  split at h
  · split at h
    · split at h
      · split at h
        · omega
        · exact ⟨by assumption, by assumption, by assumption, by omega⟩
      · omega
    · omega
  · omega
theorem adE_zero {st : Gs} {pe : Int} {tx : ByteArray} {ac : Int} (h : adE st pe tx ac = 0) : peOK pe = true ∧ (decS tx).isSome = true ∧ paOK ac = true ∧ (st.rls.filter (rlNe pe tx)).length < 24 := by
  unfold adE at h
  split at h
  · split at h
    · split at h
      · split at h
        · omega
        · exact ⟨by assumption, by assumption, by assumption, by omega⟩
      · omega
    · omega
  · omega
theorem GsOK.an {st : Gs} (h : GsOK st) (pe bt ln pa : Int) : GsOK (anS st pe bt ln pa) := by
  unfold anS
  split
  · rename_i h0
    obtain ⟨e1, e2, e3, e4⟩ := anE_zero h0
    refine ⟨h.c, ?_, h.l24, ?_, h.rl, ?_, h.rlOnce⟩
    · simp only [List.length_append, List.length_singleton]; omega
    · intro r hr
      rw [List.mem_append, List.mem_singleton] at hr
      rcases hr with hr | rfl
      · exact h.rt r (List.mem_filter.1 hr).1
      · exact ⟨e1, e2, e3⟩
    · rw [List.pairwise_append]
      refine ⟨h.rtOnce.filter _, List.pairwise_singleton _ _, ?_⟩
      intro r hr q hq
      rw [List.mem_singleton] at hq
      subst hq
      exact (rtNe_iff _ _ _ _).1 (List.mem_filter.1 hr).2
  · exact h
theorem GsOK.wi {st : Gs} (h : GsOK st) (pe bt ln : Int) : GsOK (wiS st pe bt ln) := by
  unfold wiS
  split
  · refine ⟨h.c, ?_, h.l24, fun r hr => h.rt r (List.mem_filter.1 hr).1, h.rl, h.rtOnce.filter _, h.rlOnce⟩
    exact Nat.le_trans (List.length_filter_le _ _) h.r24
  · exact h
theorem GsOK.ad {st : Gs} (h : GsOK st) (pe : Int) (tx : ByteArray) (ac : Int) : GsOK (adS st pe tx ac) := by
  unfold adS
  split
  · rename_i h0
    obtain ⟨e1, e2, e3, e4⟩ := adE_zero h0
    refine ⟨h.c, h.r24, ?_, h.rt, ?_, h.rtOnce, ?_⟩
    · simp only [List.length_append, List.length_singleton]; omega
    · intro r hr
      rw [List.mem_append, List.mem_singleton] at hr
      rcases hr with hr | rfl
      · exact h.rl r (List.mem_filter.1 hr).1
      · exact ⟨e1, e2, e3⟩
    · rw [List.pairwise_append]
      refine ⟨h.rlOnce.filter _, List.pairwise_singleton _ _, ?_⟩
      intro r hr q hq
      rw [List.mem_singleton] at hq
      subst hq
      exact (rlNe_iff _ _ _).1 (List.mem_filter.1 hr).2
  · exact h
theorem GsOK.re {st : Gs} (h : GsOK st) (pe : Int) (tx : ByteArray) : GsOK (reS st pe tx) := by
  unfold reS
  split
  · refine ⟨h.c, h.r24, ?_, h.rt, fun r hr => h.rl r (List.mem_filter.1 hr).1, h.rtOnce, h.rlOnce.filter _⟩
    exact Nat.le_trans (List.length_filter_le _ _) h.l24
  · exact h
theorem GsOK.rs {st : Gs} (h : GsOK st) (pe : Int) : GsOK (rsS st pe) := by
  unfold rsS
  split
  · refine ⟨h.c, ?_, ?_, fun r hr => h.rt r (List.mem_filter.1 hr).1, fun r hr => h.rl r (List.mem_filter.1 hr).1, h.rtOnce.filter _, h.rlOnce.filter _⟩
    · exact Nat.le_trans (List.length_filter_le _ _) h.r24
    · exact Nat.le_trans (List.length_filter_le _ _) h.l24
  · exact h
def bw (bt ln : Int) : Int → List Rt → Int
  | m, [] => m
  | m, r :: l => bw bt ln (if (decide (r.bt = bt) && decide (r.ln = ln)) && decide (4 * r.pa + r.pe < m) then 4 * r.pa + r.pe else m) l
def best (rts : List Rt) (bt ln : Int) : Int := if bw bt ln 1024 rts = 1024 then 4 else bw bt ln 1024 rts % 4
theorem bw_le (bt ln : Int) : ∀ (l : List Rt) (m : Int), bw bt ln m l ≤ m := by
  intro l
  induction l with
  | nil => intro m; exact Int.le_refl _
  | cons r l ih =>
    intro m
    simp only [bw]
    have := ih (if (decide (r.bt = bt) && decide (r.ln = ln)) && decide (4 * r.pa + r.pe < m) then 4 * r.pa + r.pe else m)
    split at this
    · rename_i h
      simp only [Bool.and_eq_true, decide_eq_true_eq] at h
      rw [if_pos (by simp only [Bool.and_eq_true, decide_eq_true_eq]; exact h)]
      omega
    · rename_i h
      rw [if_neg h]
      exact this
theorem bw_low (bt ln : Int) : ∀ (l : List Rt) (m : Int), ∀ r ∈ l, r.bt = bt → r.ln = ln → bw bt ln m l ≤ 4 * r.pa + r.pe := by
  intro l
  induction l with
  | nil => intro m r hr; simp at hr
  | cons q l ih =>
    intro m r hr h1 h2
    simp only [bw]
    rcases List.mem_cons.1 hr with rfl | hr
    · refine Int.le_trans (bw_le bt ln l _) ?_
      split
      · exact Int.le_refl _
      · rename_i h
        simp only [h1, h2, decide_true, Bool.and_self, Bool.true_and, decide_eq_true_eq] at h
        omega
    · exact ih _ r hr h1 h2
theorem bw_one (bt ln : Int) : ∀ (l : List Rt) (m : Int), bw bt ln m l = m ∨ ∃ r ∈ l, r.bt = bt ∧ r.ln = ln ∧ bw bt ln m l = 4 * r.pa + r.pe := by
  intro l
  induction l with
  | nil => intro m; exact .inl rfl
  | cons q l ih =>
    intro m
    simp only [bw]
    rcases ih (if (decide (q.bt = bt) && decide (q.ln = ln)) && decide (4 * q.pa + q.pe < m) then 4 * q.pa + q.pe else m) with h | ⟨r, hr, h⟩
    · rw [h]
      split
      · rename_i hq
        simp only [Bool.and_eq_true, decide_eq_true_eq] at hq
        exact .inr ⟨q, by simp, hq.1.1, hq.1.2, rfl⟩
      · exact .inl rfl
    · exact .inr ⟨r, by simp [hr], h⟩
theorem bw_perm {bt ln m : Int} {l k : List Rt} (h : l.Perm k) : bw bt ln m l = bw bt ln m k := by
  have le : ∀ {l k : List Rt}, l.Perm k → bw bt ln m l ≤ bw bt ln m k := by
    intro l k h
    rcases bw_one bt ln k m with e | ⟨r, hr, h1, h2, e⟩
    · rw [e]; exact bw_le _ _ _ _
    · rw [e]; exact bw_low _ _ _ _ r (h.mem_iff.2 hr) h1 h2
  exact Int.le_antisymm (le h) (le h.symm)
def cutB (bt n : Int) : Int := bt / 2 ^ (16 - n).toNat * 2 ^ (16 - n).toNat
def who (rts : List Rt) (bt : Int) : Nat → Int
  | 0 => best rts (cutB bt 0) 0
  | n + 1 => if best rts (cutB bt ((n : Int) + 1)) ((n : Int) + 1) = 4 then who rts bt n else best rts (cutB bt ((n : Int) + 1)) ((n : Int) + 1)
def below (c : Cf) (rts : List Rt) (bt ln pe : Int) : Bool := rts.all fun r => !(decide (ln < r.ln) && decide (cutB r.bt ln = bt)) || decide (netF c (best rts r.bt r.ln) = netF c pe)
def holdsP (c : Cf) (rts : List Rt) (p : Pt) (pe : Int) : Bool :=
  decide (p.ty = 1) && (!decide (who rts p.bt p.ln.toNat = 4) && decide (netF c (who rts p.bt p.ln.toNat) = netF c pe)) && below c rts p.bt p.ln pe
def holdS (c : Cf) (rts : List Rt) (r : Rl) : Bool := holdsP c rts ((dS r.tx).headD ⟨0, 0, 0, []⟩) r.pe
theorem best_perm {l k : List Rt} (h : l.Perm k) (bt ln : Int) : best l bt ln = best k bt ln := by unfold best; rw [bw_perm h]
theorem who_perm {l k : List Rt} (h : l.Perm k) (bt : Int) : ∀ n, who l bt n = who k bt n := by
  intro n
  induction n with
  | zero => exact best_perm h _ _
  | succ n ih => simp only [who]; rw [best_perm h, ih]
theorem below_perm {l k : List Rt} (h : l.Perm k) (c : Cf) (bt ln pe : Int) : below c l bt ln pe = below c k bt ln pe := by
  unfold below
  have e : (fun r : Rt => !(decide (ln < r.ln) && decide (cutB r.bt ln = bt)) || decide (netF c (best l r.bt r.ln) = netF c pe)) = fun r : Rt => !(decide (ln < r.ln) && decide (cutB r.bt ln = bt)) || decide (netF c (best k r.bt r.ln) = netF c pe) := by
    funext r; rw [best_perm h]
  rw [e, Bool.eq_iff_iff, List.all_eq_true, List.all_eq_true]
  exact ⟨fun hh x hx => hh x (h.mem_iff.2 hx), fun hh x hx => hh x (h.mem_iff.1 hx)⟩
theorem holdS_perm {l k : List Rt} (h : l.Perm k) (c : Cf) (r : Rl) : holdS c l r = holdS c k r := by
  unfold holdS holdsP; rw [who_perm h, below_perm h]
def kyR (r : Rl) : List UInt8 := keyR (dS r.tx)
def erl (a b : Rl) : Bool := Op.bytesLess (kyR a) (kyR b) || (decide (kyR a = kyR b) && decide (a.pe < b.pe))
theorem erl_iff (a b : Rl) : erl a b = true ↔ cmpL (kyR a) (kyR b) < 0 ∨ (kyR a = kyR b ∧ a.pe < b.pe) := by
  unfold erl
  have : Op.bytesLess (kyR a) (kyR b) = true ↔ cmpL (kyR a) (kyR b) < 0 := by
    unfold cmpL
    constructor
    · intro h; rw [if_pos h]; omega
    · intro h
      split at h
      · assumption
      · split at h <;> omega
  simp [this]
theorem erl_irrefl (a : Rl) : erl a a = false := by
  cases h : erl a a
  · rfl
  · rw [erl_iff] at h
    rw [cmpL_self] at h
    omega
theorem erl_trans {a b c : Rl} (h1 : erl a b = true) (h2 : erl b c = true) : erl a c = true := by
  rw [erl_iff] at *
  rcases h1 with h1 | ⟨h1, p1⟩ <;> rcases h2 with h2 | ⟨h2, p2⟩
  · exact .inl (cmpL_trans _ _ _ h1 h2)
  · exact .inl (by rw [← h2]; exact h1)
  · exact .inl (by rw [h1]; exact h2)
  · exact .inr ⟨h1.trans h2, by omega⟩
theorem erl_asymm {a b : Rl} (h : erl a b = true) : erl b a = false := by
  cases hb : erl b a
  · rfl
  · have := erl_trans h hb
    rw [erl_irrefl] at this; cases this
theorem kyR_inj {a b : Rl} (ha : (decS a.tx).isSome = true) (hb : (decS b.tx).isSome = true) (h : kyR a = kyR b) : a.tx = b.tx := by
  unfold kyR at h
  have hp := parts_cmp (dS a.tx) (dS b.tx) (fun p hp => by obtain ⟨j, hj, rfl⟩ := List.getElem_of_mem hp; exact isP_dS a.tx j hj) (fun p hp => by obtain ⟨j, hj, rfl⟩ := List.getElem_of_mem hp; exact isP_dS b.tx j hj)
  rw [h, cmpL_self] at hp
  have he := hp.2 hp.1
  obtain ⟨x, hx⟩ := Option.isSome_iff_exists.1 ha
  obtain ⟨y, hy⟩ := Option.isSome_iff_exists.1 hb
  unfold dS at he
  rw [hx, hy] at he
  simp only [Option.getD_some] at he
  subst he
  exact (decS_sound a.tx x hx).2.symm.trans (decS_sound b.tx x hy).2
theorem erl_total {a b : Rl} (ha : (decS a.tx).isSome = true) (hb : (decS b.tx).isSome = true) (hne : ¬ (a.pe = b.pe ∧ a.tx = b.tx)) : erl a b = true ∨ erl b a = true := by
  rw [erl_iff, erl_iff]
  have h1 := cmpL_bd (kyR a) (kyR b)
  have h2 := cmpL_anti (kyR a) (kyR b)
  by_cases h0 : cmpL (kyR a) (kyR b) = 0
  · have hk := cmpL_zero h0
    have ht := kyR_inj ha hb hk
    have : a.pe ≠ b.pe := fun h => hne ⟨h, ht⟩
    rcases Int.lt_or_gt_of_ne this with h | h
    · exact .inl (.inr ⟨hk, h⟩)
    · exact .inr (.inr ⟨hk.symm, h⟩)
  · by_cases hlt : cmpL (kyR a) (kyR b) < 0
    · exact .inl (.inl hlt)
    · exact .inr (.inl (by omega))
end Go.Proofs.YtgkiknfpcbcnnaaGreat
namespace Go.Proofs.YtgkiknfpcbcnnaaGreat
open Go.RowKit
set_option maxRecDepth 20000
def insR (a : Rl) : List Rl → List Rl
  | [] => [a]
  | b :: l => if erl a b then a :: b :: l else b :: insR a l
def sortR : List Rl → List Rl
  | [] => []
  | a :: l => insR a (sortR l)
theorem insR_perm (a : Rl) : ∀ l, (insR a l).Perm (a :: l) := by
  intro l
  induction l with
  | nil => exact List.Perm.refl _
  | cons b l ih =>
    simp only [insR]
    split
    · exact List.Perm.refl _
    · exact (List.Perm.cons b ih).trans (List.Perm.swap a b l)
theorem sortR_perm : ∀ l, (sortR l).Perm l := by
  intro l
  induction l with
  | nil => exact List.Perm.refl _
  | cons a l ih => exact (insR_perm a _).trans (List.Perm.cons a ih)
def Tel (l : List Rl) : Prop := (∀ r ∈ l, (decS r.tx).isSome = true) ∧ l.Pairwise fun r q => ¬ (r.pe = q.pe ∧ r.tx = q.tx)
theorem GsOK.tel {st : Gs} (h : GsOK st) : Tel st.rls := ⟨fun r hr => (h.rl r hr).2.1, h.rlOnce⟩
theorem Tel.perm {l k : List Rl} (h : Tel l) (hp : l.Perm k) : Tel k :=
  ⟨fun r hr => h.1 r (hp.mem_iff.2 hr), (hp.pairwise_iff (fun hh he => hh ⟨he.1.symm, he.2.symm⟩)).1 h.2⟩
theorem Tel.tail {a : Rl} {l : List Rl} (h : Tel (a :: l)) : Tel l := ⟨fun r hr => h.1 r (by simp [hr]), (List.pairwise_cons.1 h.2).2⟩
theorem insR_sorted {a : Rl} : ∀ {l : List Rl}, Tel (a :: l) → l.Pairwise (fun x y => erl x y = true) → (insR a l).Pairwise (fun x y => erl x y = true) := by
  intro l
  induction l with
  | nil => intro _ _; exact List.pairwise_singleton _ _
  | cons b l ih =>
    intro ht hs
    have hb := List.pairwise_cons.1 hs
    have ht2 := List.pairwise_cons.1 ht.2
    simp only [insR]
    split
    · rename_i hab
      rw [List.pairwise_cons]
      refine ⟨?_, hs⟩
      intro x hx
      rcases List.mem_cons.1 hx with rfl | hx
      · exact hab
      · exact erl_trans hab (hb.1 x hx)
    · rename_i hab
      have hba : erl b a = true := by
        rcases erl_total (ht.1 a (by simp)) (ht.1 b (by simp)) (ht2.1 b (by simp)) with h | h
        · exact absurd h hab
        · exact h
      have htl : Tel (a :: l) := ⟨fun r hr => ht.1 r (by rcases List.mem_cons.1 hr with rfl | hr <;> simp_all), List.pairwise_cons.2 ⟨fun x hx => ht2.1 x (by simp [hx]), (List.pairwise_cons.1 ht2.2).2⟩⟩
      rw [List.pairwise_cons]
      refine ⟨?_, ih htl hb.2⟩
      intro x hx
      rcases List.mem_cons.1 ((insR_perm a l).mem_iff.1 hx) with rfl | hx
      · exact hba
      · exact hb.1 x hx
theorem sortR_sorted : ∀ {l : List Rl}, Tel l → (sortR l).Pairwise (fun x y => erl x y = true) := by
  intro l
  induction l with
  | nil => intro _; exact List.Pairwise.nil
  | cons a l ih => intro h; exact insR_sorted (h.perm (List.Perm.cons a (sortR_perm l).symm)) (ih h.tail)
theorem sorted_unique : ∀ {l k : List Rl}, l.Perm k → l.Pairwise (fun x y => erl x y = true) → k.Pairwise (fun x y => erl x y = true) → l = k := by
  intro l
  induction l with
  | nil => intro k h _ _; exact (List.Perm.nil_eq h)
  | cons a l ih =>
    intro k h h1 h2
    cases k with
    | nil => exact absurd h.length_eq (by simp)
    | cons b k =>
      have p1 := List.pairwise_cons.1 h1
      have p2 := List.pairwise_cons.1 h2
      have hab : a = b := by
        apply Classical.byContradiction
        intro hne
        have ha : a ∈ b :: k := h.mem_iff.1 (by simp)
        have hb : b ∈ a :: l := h.mem_iff.2 (by simp)
        rcases List.mem_cons.1 ha with e | ha
        · exact hne e
        · rcases List.mem_cons.1 hb with e | hb
          · exact hne e.symm
          · have q1 := p1.1 b hb
            have q2 := p2.1 a ha
            rw [erl_asymm q1] at q2
            cases q2
      subst hab
      rw [ih ((List.perm_cons a).1 h) p1.2 p2.2]
theorem sortR_of {l k : List Rl} (ht : Tel l) (hp : l.Perm k) (hs : k.Pairwise (fun x y => erl x y = true)) : sortR l = k :=
  sorted_unique ((sortR_perm l).trans hp) (sortR_sorted ht) hs
theorem sortR_same {l k : List Rl} (ht : Tel l) (hp : l.Perm k) : sortR l = sortR k :=
  sortR_of ht (hp.trans (sortR_perm k).symm) (sortR_sorted (ht.perm hp))
theorem place : ∀ {l : List Rl}, l.Pairwise (fun x y => erl x y = true) → ∀ i (h : i < l.length), l.countP (fun b => erl b l[i]) = i := by
  intro l
  induction l with
  | nil => intro _ i h; simp at h
  | cons a l ih =>
    intro hs i h
    have p := List.pairwise_cons.1 hs
    cases i with
    | zero =>
      simp only [List.getElem_cons_zero, List.countP_cons, erl_irrefl]
      have : l.countP (fun b => erl b a) = 0 := by
        rw [List.countP_eq_zero]
        intro b hb
        rw [erl_asymm (p.1 b hb)]; simp
      rw [this]; rfl
    | succ i =>
      have hi : i < l.length := by simpa using h
      simp only [List.getElem_cons_succ, List.countP_cons, p.1 _ (List.getElem_mem hi), if_true]
      rw [ih p.2 i hi]
def stF (c : Cf) (rts : List Rt) : ByteArray → Int → Bool → List Rl → List Int
  | _, _, _, [] => []
  | last, tot, full, r :: l =>
    if holdS c rts r then
      (if r.tx = last then 1 :: stF c rts last tot full l
       else (if full || (decide (c.bu < (nS (dS r.tx) : Int)) || decide (c.cp < tot + (nS (dS r.tx) : Int))) then 2 else 3) :: stF c rts r.tx (tot + (nS (dS r.tx) : Int)) (full || (decide (c.bu < (nS (dS r.tx) : Int)) || decide (c.cp < tot + (nS (dS r.tx) : Int)))) l)
    else 0 :: stF c rts last tot full l
theorem stF_len (c : Cf) (rts : List Rt) : ∀ (l : List Rl) (a : ByteArray) (t : Int) (f : Bool), (stF c rts a t f l).length = l.length := by
  intro l
  induction l with
  | nil => intro a t f; rfl
  | cons r l ih =>
    intro a t f
    simp only [stF]
    split
    · split
      · simp [ih]
      · simp [ih]
    · simp [ih]
theorem stF_perm {k m : List Rt} (h : k.Perm m) (c : Cf) : ∀ (l : List Rl) (a : ByteArray) (t : Int) (f : Bool), stF c k a t f l = stF c m a t f l := by
  intro l
  induction l with
  | nil => intro a t f; rfl
  | cons r l ih => intro a t f; simp only [stF]; rw [holdS_perm h, ih, ih]
def stats (st : Gs) : List (Rl × Int) := (sortR st.rls).zip (stF st.c st.rts ⟨#[]⟩ 0 false (sortR st.rls))
theorem stats_len (st : Gs) : (stats st).length = st.rls.length := by
  unfold stats
  rw [List.length_zip, stF_len, Nat.min_self, (sortR_perm st.rls).length_eq]
structure Sim (s t : Gs) : Prop where
  c : s.c = t.c
  rt : s.rts.Perm t.rts
  rl : s.rls.Perm t.rls
theorem Sim.refl (s : Gs) : Sim s s := ⟨rfl, List.Perm.refl _, List.Perm.refl _⟩
theorem Sim.trans {s t u : Gs} (h : Sim s t) (k : Sim t u) : Sim s u := ⟨h.c.trans k.c, h.rt.trans k.rt, h.rl.trans k.rl⟩
theorem Sim.stats {s t : Gs} (h : Sim s t) (ht : Tel s.rls) : stats s = stats t := by
  unfold Proofs.YtgkiknfpcbcnnaaGreat.stats
  rw [sortR_same ht h.rl, h.c, stF_perm h.rt]
theorem Sim.anE {s t : Gs} (h : Sim s t) (pe bt ln pa : Int) : anE s pe bt ln pa = anE t pe bt ln pa := by
  unfold Proofs.YtgkiknfpcbcnnaaGreat.anE; rw [(h.rt.filter _).length_eq]
theorem Sim.anS {s t : Gs} (h : Sim s t) (pe bt ln pa : Int) : Sim (anS s pe bt ln pa) (anS t pe bt ln pa) := by
  unfold Proofs.YtgkiknfpcbcnnaaGreat.anS
  rw [h.anE]
  split
  · exact ⟨h.c, (h.rt.filter _).append_right _, h.rl⟩
  · exact h
theorem Sim.wiE {s t : Gs} (h : Sim s t) (pe bt ln : Int) : wiE s pe bt ln = wiE t pe bt ln := by
  unfold Proofs.YtgkiknfpcbcnnaaGreat.wiE; rw [(h.rt.filter _).length_eq, h.rt.length_eq]
theorem Sim.wiS {s t : Gs} (h : Sim s t) (pe bt ln : Int) : Sim (wiS s pe bt ln) (wiS t pe bt ln) := by
  unfold Proofs.YtgkiknfpcbcnnaaGreat.wiS
  rw [h.wiE]
  split
  · exact ⟨h.c, h.rt.filter _, h.rl⟩
  · exact h
theorem Sim.adE {s t : Gs} (h : Sim s t) (pe : Int) (tx : ByteArray) (ac : Int) : adE s pe tx ac = adE t pe tx ac := by
  unfold Proofs.YtgkiknfpcbcnnaaGreat.adE; rw [(h.rl.filter _).length_eq]
theorem Sim.adS {s t : Gs} (h : Sim s t) (pe : Int) (tx : ByteArray) (ac : Int) : Sim (adS s pe tx ac) (adS t pe tx ac) := by
  unfold Proofs.YtgkiknfpcbcnnaaGreat.adS
  rw [h.adE]
  split
  · exact ⟨h.c, h.rt, (h.rl.filter _).append_right _⟩
  · exact h
theorem Sim.reE {s t : Gs} (h : Sim s t) (pe : Int) (tx : ByteArray) : reE s pe tx = reE t pe tx := by
  unfold Proofs.YtgkiknfpcbcnnaaGreat.reE; rw [(h.rl.filter _).length_eq, h.rl.length_eq]
theorem Sim.reS {s t : Gs} (h : Sim s t) (pe : Int) (tx : ByteArray) : Sim (reS s pe tx) (reS t pe tx) := by
  unfold Proofs.YtgkiknfpcbcnnaaGreat.reS
  rw [h.reE]
  split
  · exact ⟨h.c, h.rt, h.rl.filter _⟩
  · exact h
theorem Sim.rsS {s t : Gs} (h : Sim s t) (pe : Int) : Sim (rsS s pe) (rsS t pe) := by
  unfold Proofs.YtgkiknfpcbcnnaaGreat.rsS
  split
  · exact ⟨h.c, h.rt.filter _, h.rl.filter _⟩
  · exact h
end Go.Proofs.YtgkiknfpcbcnnaaGreat
namespace Go.Proofs.YtgkiknfpcbcnnaaGreat
open Go.RowKit
set_option maxRecDepth 20000
def i64 (x : Int) : Prop := -9223372036854775808 ≤ x ∧ x ≤ 9223372036854775807
def ptrV (x : Nat) : Value := .pointer (some ⟨x, 0, none⟩)
theorem once_erase {α : Type} (f : α → Bool) : ∀ (l : List α), (l.Pairwise fun a b => ¬ (f a = false ∧ f b = false)) → l.findIdx (fun a => !f a) < l.length → l.filter f = l.eraseIdx (l.findIdx fun a => !f a) := by
  intro l
  induction l with
  | nil => intro _ h; simp at h
  | cons a l ih =>
    intro hp hf
    have hc := List.pairwise_cons.1 hp
    cases ha : f a
    · have e : (a :: l).findIdx (fun a => !f a) = 0 := by rw [List.findIdx_cons]; simp [ha]
      rw [e, List.filter_cons, ha]
      simp only [Bool.false_eq_true, if_false, List.eraseIdx_cons_zero]
      rw [List.filter_eq_self]
      intro b hb
      have := hc.1 b hb
      cases hfb : f b
      · exact absurd ⟨ha, hfb⟩ this
      · rfl
    · have e : (a :: l).findIdx (fun a => !f a) = l.findIdx (fun a => !f a) + 1 := by rw [List.findIdx_cons]; simp [ha]
      rw [e] at hf ⊢
      rw [List.filter_cons, ha]
      simp only [if_true, List.eraseIdx_cons_succ]
      rw [ih hc.2 (by simpa using hf)]
theorem none_filter {α : Type} (f : α → Bool) (l : List α) (h : ¬ l.findIdx (fun a => !f a) < l.length) : l.filter f = l := by
  rw [List.filter_eq_self]
  intro a ha
  cases hf : f a
  · exact absurd (List.findIdx_lt_length_of_exists ⟨a, ha, by simp [hf]⟩) h
  · rfl
theorem erase_length {α : Type} (l : List α) (i : Nat) (h : i < l.length) : (l.eraseIdx i).length + 1 = l.length := by
  rw [List.length_eraseIdx_of_lt h]; omega
theorem set_perm {α : Type} : ∀ (l : List α) (i : Nat) (x : α), i < l.length → (l.set i x).Perm (l.eraseIdx i ++ [x]) := by
  intro l
  induction l with
  | nil => intro i x h; simp at h
  | cons a l ih =>
    intro i x h
    cases i with
    | zero =>
      simp only [List.set_cons_zero, List.eraseIdx_cons_zero]
      exact (List.perm_append_comm (l₁ := [x]) (l₂ := l))
    | succ i =>
      simp only [List.set_cons_succ, List.eraseIdx_cons_succ, List.cons_append]
      exact List.Perm.cons a (ih i x (by simpa using h))
theorem GsOK.sim {s t : Gs} (h : Sim s t) (k : GsOK t) : GsOK s :=
  ⟨by rw [h.c]; exact k.c, by rw [h.rt.length_eq]; exact k.r24, by rw [h.rl.length_eq]; exact k.l24, fun r hr => k.rt r (h.rt.mem_iff.1 hr), fun r hr => k.rl r (h.rl.mem_iff.1 hr),
    (h.rt.pairwise_iff (fun hh he => hh ⟨he.1.symm, he.2.1.symm, he.2.2.symm⟩)).2 k.rtOnce, (h.rl.pairwise_iff (fun hh he => hh ⟨he.1.symm, he.2.symm⟩)).2 k.rlOnce⟩
def plR (l : List Rt) (pe bt ln : Int) : Nat := l.findIdx fun r => !rtNe pe bt ln r
def plC (l : List Rl) (pe : Int) (tx : ByteArray) : Nat := l.findIdx fun r => !rlNe pe tx r
theorem rt_once {st : Gs} (h : GsOK st) (pe bt ln : Int) : st.rts.Pairwise fun a b => ¬ (rtNe pe bt ln a = false ∧ rtNe pe bt ln b = false) := by
  refine h.rtOnce.imp ?_
  intro a b hab hh
  have e1 : ¬ rtNe pe bt ln a = true := by rw [hh.1]; simp
  have e2 : ¬ rtNe pe bt ln b = true := by rw [hh.2]; simp
  rw [rtNe_iff, Classical.not_not] at e1 e2
  exact hab ⟨e1.1.trans e2.1.symm, e1.2.1.trans e2.2.1.symm, e1.2.2.trans e2.2.2.symm⟩
theorem rl_once {st : Gs} (h : GsOK st) (pe : Int) (tx : ByteArray) : st.rls.Pairwise fun a b => ¬ (rlNe pe tx a = false ∧ rlNe pe tx b = false) := by
  refine h.rlOnce.imp ?_
  intro a b hab hh
  have e1 : ¬ rlNe pe tx a = true := by rw [hh.1]; simp
  have e2 : ¬ rlNe pe tx b = true := by rw [hh.2]; simp
  rw [rlNe_iff, Classical.not_not] at e1 e2
  exact hab ⟨e1.1.trans e2.1.symm, e1.2.trans e2.2.symm⟩
theorem anE_at {st : Gs} (h : GsOK st) {pe bt ln pa : Int} (h1 : peOK pe = true) (h2 : prefOK bt ln = true) (h3 : paOK pa = true) (hp : plR st.rts pe bt ln < st.rts.length) : anE st pe bt ln pa = 0 ∧ Sim ⟨st.c, st.rts.set (plR st.rts pe bt ln) ⟨pe, bt, ln, pa⟩, st.rls⟩ (anS st pe bt ln pa) := by
  have e := once_erase _ _ (rt_once h pe bt ln) hp
  have hl := erase_length st.rts _ hp
  have h0 : anE st pe bt ln pa = 0 := by
    unfold anE
    rw [if_pos h1, if_pos h2, if_pos h3, if_neg]
    rw [e]
    have := h.r24
    have e2 : plR st.rts pe bt ln = st.rts.findIdx fun r => !rtNe pe bt ln r := rfl
    rw [← e2]
    omega
  refine ⟨h0, ?_⟩
  unfold anS
  rw [if_pos h0]
  refine ⟨rfl, ?_, List.Perm.refl _⟩
  show (st.rts.set _ _).Perm (st.rts.filter _ ++ _)
  rw [e]
  exact set_perm _ _ _ hp
theorem anE_new {st : Gs} {pe bt ln pa : Int} (h1 : peOK pe = true) (h2 : prefOK bt ln = true) (h3 : paOK pa = true) (hp : ¬ plR st.rts pe bt ln < st.rts.length) : anE st pe bt ln pa = (if 24 ≤ st.rts.length then 10 else 0) ∧ (st.rts.length < 24 → anS st pe bt ln pa = ⟨st.c, st.rts ++ [⟨pe, bt, ln, pa⟩], st.rls⟩) := by
  have e := none_filter _ _ hp
  have h0 : anE st pe bt ln pa = (if 24 ≤ st.rts.length then 10 else 0) := by
    unfold anE
    rw [if_pos h1, if_pos h2, if_pos h3, e]
  refine ⟨h0, fun hl => ?_⟩
  unfold anS
  rw [if_pos (h0.trans (if_neg (by omega))), e]
theorem wiE_at {st : Gs} (h : GsOK st) {pe bt ln : Int} (h1 : peOK pe = true) (h2 : prefOK bt ln = true) (hp : plR st.rts pe bt ln < st.rts.length) : wiE st pe bt ln = 0 ∧ wiS st pe bt ln = ⟨st.c, st.rts.eraseIdx (plR st.rts pe bt ln), st.rls⟩ := by
  have e := once_erase _ _ (rt_once h pe bt ln) hp
  have hl := erase_length st.rts _ hp
  have h0 : wiE st pe bt ln = 0 := by
    unfold wiE
    rw [if_pos h1, if_pos h2, if_neg]
    rw [e]
    have e2 : plR st.rts pe bt ln = st.rts.findIdx fun r => !rtNe pe bt ln r := rfl
    rw [← e2]
    omega
  refine ⟨h0, ?_⟩
  unfold wiS
  rw [if_pos h0, e]
  rfl
theorem wiE_none {st : Gs} {pe bt ln : Int} (h1 : peOK pe = true) (h2 : prefOK bt ln = true) (hp : ¬ plR st.rts pe bt ln < st.rts.length) : wiE st pe bt ln = 11 := by
  unfold wiE
  rw [if_pos h1, if_pos h2, none_filter _ _ hp, if_pos rfl]
theorem adE_at {st : Gs} (h : GsOK st) {pe : Int} {tx : ByteArray} {ac : Int} (h1 : peOK pe = true) (h2 : (decS tx).isSome = true) (h3 : paOK ac = true) (hp : plC st.rls pe tx < st.rls.length) : adE st pe tx ac = 0 ∧ Sim ⟨st.c, st.rts, st.rls.set (plC st.rls pe tx) ⟨tx, pe, ac⟩⟩ (adS st pe tx ac) := by
  have e := once_erase _ _ (rl_once h pe tx) hp
  have hl := erase_length st.rls _ hp
  have h0 : adE st pe tx ac = 0 := by
    unfold adE
    rw [if_pos h1, if_pos h2, if_pos h3, if_neg]
    rw [e]
    have := h.l24
    have e2 : plC st.rls pe tx = st.rls.findIdx fun r => !rlNe pe tx r := rfl
    rw [← e2]
    omega
  refine ⟨h0, ?_⟩
  unfold adS
  rw [if_pos h0]
  refine ⟨rfl, List.Perm.refl _, ?_⟩
  show (st.rls.set _ _).Perm (st.rls.filter _ ++ _)
  rw [e]
  exact set_perm _ _ _ hp
theorem adE_new {st : Gs} {pe : Int} {tx : ByteArray} {ac : Int} (h1 : peOK pe = true) (h2 : (decS tx).isSome = true) (h3 : paOK ac = true) (hp : ¬ plC st.rls pe tx < st.rls.length) : adE st pe tx ac = (if 24 ≤ st.rls.length then 10 else 0) ∧ (st.rls.length < 24 → Sim ⟨st.c, st.rts, insR ⟨tx, pe, ac⟩ st.rls⟩ (adS st pe tx ac)) := by
  have e := none_filter _ _ hp
  have h0 : adE st pe tx ac = (if 24 ≤ st.rls.length then 10 else 0) := by
    unfold adE
    rw [if_pos h1, if_pos h2, if_pos h3, e]
  refine ⟨h0, fun hl => ?_⟩
  unfold adS
  rw [if_pos (h0.trans (if_neg (by omega))), e]
  exact ⟨rfl, List.Perm.refl _, (insR_perm _ _).trans (List.perm_append_comm (l₁ := [_]) (l₂ := st.rls))⟩
theorem reE_at {st : Gs} (h : GsOK st) {pe : Int} {tx : ByteArray} (h1 : peOK pe = true) (h2 : (decS tx).isSome = true) (hp : plC st.rls pe tx < st.rls.length) : reE st pe tx = 0 ∧ reS st pe tx = ⟨st.c, st.rts, st.rls.eraseIdx (plC st.rls pe tx)⟩ := by
  have e := once_erase _ _ (rl_once h pe tx) hp
  have hl := erase_length st.rls _ hp
  have h0 : reE st pe tx = 0 := by
    unfold reE
    rw [if_pos h1, if_pos h2, if_neg]
    rw [e]
    have e2 : plC st.rls pe tx = st.rls.findIdx fun r => !rlNe pe tx r := rfl
    rw [← e2]
    omega
  refine ⟨h0, ?_⟩
  unfold reS
  rw [if_pos h0, e]
  rfl
theorem reE_none {st : Gs} {pe : Int} {tx : ByteArray} (h1 : peOK pe = true) (h2 : (decS tx).isSome = true) (hp : ¬ plC st.rls pe tx < st.rls.length) : reE st pe tx = 11 := by
  unfold reE
  rw [if_pos h1, if_pos h2, none_filter _ _ hp, if_pos rfl]
def Srt (l : List Rl) : Prop := l.Pairwise fun a b => erl a b = true
def bare (r : Rl) : Rl := ⟨r.tx, r.pe, 0⟩
theorem Srt.bare (l : List Rl) : Srt (l.map bare) ↔ Srt l := by
  unfold Srt
  rw [List.pairwise_map]
  exact Iff.rfl
theorem Srt.set {l : List Rl} (h : Srt l) {i : Nat} {x : Rl} (hi : i < l.length) (hx : Proofs.YtgkiknfpcbcnnaaGreat.bare x = Proofs.YtgkiknfpcbcnnaaGreat.bare l[i]) : Srt (l.set i x) := by
  rw [← Srt.bare] at h ⊢
  rw [List.map_set, hx]
  have e : (l.map Proofs.YtgkiknfpcbcnnaaGreat.bare).set i (Proofs.YtgkiknfpcbcnnaaGreat.bare l[i]) = l.map Proofs.YtgkiknfpcbcnnaaGreat.bare := by
    apply List.ext_getElem (by simp)
    intro k h1 h2
    rw [List.getElem_set]
    split
    · rename_i hk; subst hk; rw [List.getElem_map]
    · rfl
  rw [e]; exact h
theorem Srt.erase {l : List Rl} (h : Srt l) (i : Nat) : Srt (l.eraseIdx i) := h.sublist (List.eraseIdx_sublist l i)
theorem Srt.filter {l : List Rl} (h : Srt l) (f : Rl → Bool) : Srt (l.filter f) := List.Pairwise.filter f h
theorem Srt.eq {l : List Rl} (h : Srt l) (ht : Tel l) : sortR l = l := sorted_unique (sortR_perm l) (sortR_sorted ht) h
theorem Srt.ins {l : List Rl} {a : Rl} (h : Srt l) (ht : Tel (a :: l)) : Srt (insR a l) := insR_sorted ht h
theorem plC_at {l : List Rl} {pe : Int} {tx : ByteArray} (h : plC l pe tx < l.length) : (l[plC l pe tx]'h).pe = pe ∧ (l[plC l pe tx]'h).tx = tx := by
  have := List.findIdx_getElem (p := fun r => !rlNe pe tx r) (xs := l) (w := h)
  have e : ¬ rlNe pe tx (l[plC l pe tx]'h) = true := by
    intro hh
    have t2 : (!rlNe pe tx (l[plC l pe tx]'h)) = true := this
    rw [hh] at t2
    simp at t2
  rw [rlNe_iff, Classical.not_not] at e
  exact e
theorem plC_none {l : List Rl} {pe : Int} {tx : ByteArray} (h : ¬ plC l pe tx < l.length) : ∀ r ∈ l, ¬ (r.pe = pe ∧ r.tx = tx) := by
  intro r hr hh
  apply h
  exact List.findIdx_lt_length_of_exists ⟨r, hr, by
    have : ¬ rlNe pe tx r = true := by rw [rlNe_iff, Classical.not_not]; exact hh
    simp [this]⟩
theorem Tel.ins {st : Gs} (h : GsOK st) {pe : Int} {tx : ByteArray} {ac : Int} (h2 : (decS tx).isSome = true) (hp : ¬ plC st.rls pe tx < st.rls.length) : Tel (⟨tx, pe, ac⟩ :: st.rls) := by
  refine ⟨fun r hr => ?_, List.pairwise_cons.2 ⟨fun r hr hh => plC_none hp r hr ⟨hh.1.symm, hh.2.symm⟩, h.rlOnce⟩⟩
  rcases List.mem_cons.1 hr with rfl | hr
  · exact h2
  · exact (h.rl r hr).2.1
end Go.Proofs.YtgkiknfpcbcnnaaGreat
namespace Go.Proofs.YtgkiknfpcbcnnaaGreat
open Go.RowKit
set_option maxRecDepth 20000
def RtOK (l : List Rt) : Prop := ∀ r ∈ l, peOK r.pe = true ∧ prefOK r.bt r.ln = true ∧ paOK r.pa = true
theorem peOK_bd {p : Int} (h : peOK p = true) : 0 ≤ p ∧ p ≤ 3 := by simpa [peOK] using h
theorem paOK_bd {p : Int} (h : paOK p = true) : 1 ≤ p ∧ p ≤ 255 := by simpa [paOK] using h
structure Lc where
  fd : Bool
  bt : Int
  ln : Int
def lcStep (bt ln : Int) (s : Lc) (r : Rt) : Lc := if cov r.bt r.ln bt ln && (!s.fd || decide (s.ln < r.ln)) then ⟨true, r.bt, r.ln⟩ else s
def lcF (bt ln : Int) (s : Lc) (l : List Rt) : Lc := l.foldl (lcStep bt ln) s
theorem lcF_spec (bt ln : Int) : ∀ (l : List Rt) (s : Lc), ((lcF bt ln s l).fd = false → s.fd = false ∧ ∀ r ∈ l, cov r.bt r.ln bt ln = false) ∧ ((lcF bt ln s l).fd = true → (lcF bt ln s l = s ∨ ∃ r ∈ l, cov r.bt r.ln bt ln = true ∧ (lcF bt ln s l).bt = r.bt ∧ (lcF bt ln s l).ln = r.ln) ∧ (s.fd = true → s.ln ≤ (lcF bt ln s l).ln) ∧ ∀ r ∈ l, cov r.bt r.ln bt ln = true → r.ln ≤ (lcF bt ln s l).ln) := by
  intro l
  induction l with
  | nil => intro s; exact ⟨fun h => ⟨h, by simp⟩, fun h => ⟨.inl rfl, fun _ => Int.le_refl _, by simp⟩⟩
  | cons q l ih =>
    intro s
    have e : lcF bt ln s (q :: l) = lcF bt ln (lcStep bt ln s q) l := rfl
    rw [e]
    obtain ⟨i1, i2⟩ := ih (lcStep bt ln s q)
    unfold lcStep at i1 i2 ⊢
    split at i1 <;> rename_i hc
    · rw [if_pos hc] at i2 ⊢
      rw [Bool.and_eq_true] at hc
      refine ⟨fun h => absurd (i1 h).1 (by simp), fun h => ?_⟩
      obtain ⟨j1, j2, j3⟩ := i2 h
      have j2' := j2 rfl
      refine ⟨?_, ?_, ?_⟩
      · rcases j1 with j1 | ⟨r, hr, j1⟩
        · exact .inr ⟨q, by simp, hc.1, by rw [j1], by rw [j1]⟩
        · exact .inr ⟨r, by simp [hr], j1⟩
      · intro hs
        have hc2 := hc.2
        rw [hs] at hc2
        simp at hc2
        simp only [] at j2'
        omega
      · intro r hr hcr
        rcases List.mem_cons.1 hr with rfl | hr
        · exact j2'
        · exact j3 r hr hcr
    · rw [if_neg hc] at i2 ⊢
      refine ⟨fun h => ?_, fun h => ?_⟩
      · obtain ⟨j1, j2⟩ := i1 h
        refine ⟨j1, fun r hr => ?_⟩
        rcases List.mem_cons.1 hr with rfl | hr
        · cases hcv : cov r.bt r.ln bt ln
          · rfl
          · rw [hcv, j1] at hc; simp at hc
        · exact j2 r hr
      · obtain ⟨j1, j2, j3⟩ := i2 h
        refine ⟨?_, j2, ?_⟩
        · rcases j1 with j1 | ⟨r, hr, j1⟩
          · exact .inl j1
          · exact .inr ⟨r, by simp [hr], j1⟩
        · intro r hr hcr
          rcases List.mem_cons.1 hr with rfl | hr
          · cases hfd : s.fd
            · rw [hcr, hfd] at hc; simp at hc
            · have := j2 hfd
              rw [hcr, hfd] at hc
              simp at hc
              omega
          · exact j3 r hr hcr
def btr (a b : Rt) : Bool := if a.pa = b.pa then decide (a.pe < b.pe) else decide (a.pa < b.pa)
def nwStep (bt ln : Int) (b r : Rt) : Rt := if (decide (r.bt = bt) && decide (r.ln = ln)) && btr r b then r else b
def nwF (bt ln : Int) (b : Rt) (l : List Rt) : Rt := l.foldl (nwStep bt ln) b
def NwOK (b : Rt) : Prop := 0 ≤ b.pe ∧ b.pe ≤ 4 ∧ b.pa ≤ 255 ∧ (b.pe = 4 → b.pa = 255)
theorem nwF_spec (bt ln : Int) : ∀ (l : List Rt) (b : Rt), RtOK l → NwOK b → NwOK (nwF bt ln b l) ∧ 4 * (nwF bt ln b l).pa + (nwF bt ln b l).pe = bw bt ln (4 * b.pa + b.pe) l := by
  intro l
  induction l with
  | nil => intro b _ h; exact ⟨h, rfl⟩
  | cons r l ih =>
    intro b hl hb
    have e : nwF bt ln b (r :: l) = nwF bt ln (nwStep bt ln b r) l := rfl
    rw [e]
    have hr := hl r (by simp)
    have hp := peOK_bd hr.1
    have ha := paOK_bd hr.2.2
    have hbt : btr r b = decide (4 * r.pa + r.pe < 4 * b.pa + b.pe) := by
      unfold btr
      obtain ⟨b1, b2, b3, b4⟩ := hb
      by_cases he : r.pa = b.pa
      · rw [if_pos he, decide_eq_decide]; omega
      · rw [if_neg he, decide_eq_decide]
        by_cases h4 : b.pe = 4
        · have := b4 h4; omega
        · omega
    have hok : NwOK (nwStep bt ln b r) := by
      unfold nwStep
      split
      · exact ⟨hp.1, by omega, ha.2, by omega⟩
      · exact hb
    obtain ⟨i1, i2⟩ := ih (nwStep bt ln b r) (fun q hq => hl q (by simp [hq])) hok
    refine ⟨i1, i2.trans ?_⟩
    simp only [bw]
    congr 1
    unfold nwStep
    rw [hbt]
    split <;> rfl
theorem nwF_best {l : List Rt} (h : RtOK l) (bt ln b0 l0 : Int) : (nwF bt ln ⟨4, b0, l0, 255⟩ l).pe = best l bt ln := by
  obtain ⟨⟨h1, h2, h3, h4⟩, h5⟩ := nwF_spec bt ln l ⟨4, b0, l0, 255⟩ h ⟨by simp, by simp, by simp, by simp⟩
  simp only [] at h5
  have e : (4 * 255 + 4 : Int) = 1024 := by omega
  rw [e] at h5
  unfold best
  rw [← h5]
  split
  · omega
  · by_cases hp : (nwF bt ln ⟨4, b0, l0, 255⟩ l).pe = 4
    · have := h4 hp; omega
    · omega
theorem best_four {l : List Rt} (h : RtOK l) (bt ln : Int) : best l bt ln = 4 ↔ ∀ r ∈ l, ¬ (r.bt = bt ∧ r.ln = ln) := by
  unfold best
  constructor
  · intro hb r hr he
    have hw := bw_low bt ln l 1024 r hr he.1 he.2
    have hp := peOK_bd (h r hr).1
    have ha := paOK_bd (h r hr).2.2
    split at hb
    · omega
    · omega
  · intro hn
    rcases bw_one bt ln l 1024 with e | ⟨r, hr, h1, h2, _⟩
    · rw [if_pos e]
    · exact absurd ⟨h1, h2⟩ (hn r hr)
theorem best_mem {l : List Rt} {bt ln : Int} (hb : best l bt ln ≠ 4) : peOK (best l bt ln) = true := by
  unfold best at hb ⊢
  split at hb
  · omega
  · rename_i hw
    rw [if_neg hw]
    simp only [peOK, Bool.and_eq_true, decide_eq_true_eq]
    omega
theorem cov_cut {b1 l1 : Int} (b2 l2 : Int) (h : prefOK b1 l1 = true) : cov b1 l1 b2 l2 = true ↔ l1 ≤ l2 ∧ cutB b2 l1 = b1 := by
  obtain ⟨h0, h1, h2, h3, h4⟩ := prefOK_bd h
  unfold cov lies cutB
  simp only [Bool.and_eq_true, decide_eq_true_eq]
  have hpos : (0 : Int) < 2 ^ (16 - l1).toNat := Int.pow_pos (by omega)
  generalize (2 : Int) ^ (16 - l1).toNat = m at *
  have hd : b1 / m * m = b1 := by
    exact Int.ediv_mul_cancel (Int.dvd_of_emod_eq_zero h4)
  constructor
  · rintro ⟨e1, e2⟩
    exact ⟨e1, by rw [e2]; exact hd⟩
  · rintro ⟨e1, e2⟩
    refine ⟨e1, ?_⟩
    rw [← e2, Int.mul_ediv_cancel _ (by omega)]
theorem who_none {rts : List Rt} {bt : Int} : ∀ (n : Nat), (∀ m : Nat, m ≤ n → best rts (cutB bt m) m = 4) → who rts bt n = 4 := by
  intro n
  induction n with
  | zero => intro h; exact h 0 (by omega)
  | succ n ih =>
    intro h
    simp only [who]
    have := h (n + 1) (by omega)
    have e0 : ((n + 1 : Nat) : Int) = (n : Int) + 1 := by omega
    rw [e0] at this
    rw [if_pos this]
    exact ih (fun m hm => h m (by omega))
theorem who_some {rts : List Rt} {bt : Int} {m : Nat} (hm : best rts (cutB bt m) m ≠ 4) : ∀ (n : Nat), m ≤ n → (∀ k : Nat, m < k → k ≤ n → best rts (cutB bt k) k = 4) → who rts bt n = best rts (cutB bt m) m := by
  intro n
  induction n with
  | zero => intro h _; obtain rfl : m = 0 := by omega
            rfl
  | succ n ih =>
    intro h hk
    simp only [who]
    by_cases he : m = n + 1
    · subst he
      have e0 : ((n + 1 : Nat) : Int) = (n : Int) + 1 := by omega
      rw [e0] at hm ⊢
      rw [if_neg hm]
    · have := hk (n + 1) (by omega) (by omega)
      have e0 : ((n + 1 : Nat) : Int) = (n : Int) + 1 := by omega
      rw [e0] at this
      rw [if_pos this]
      exact ih (by omega) (fun k h1 h2 => hk k h1 (by omega))
def netO (c : Cf) (p : Int) : Int := if peOK p then netF c p else 0
def holdL (c : Cf) (rts : List Rt) (bt ln pe : Int) : Bool :=
  (lcF bt ln ⟨false, 0, 0⟩ rts).fd && (decide (netO c (best rts (lcF bt ln ⟨false, 0, 0⟩ rts).bt (lcF bt ln ⟨false, 0, 0⟩ rts).ln) = netO c pe) && rts.all fun r => !((decide (ln < r.ln) && cov bt ln r.bt r.ln) && !decide (netO c (best rts r.bt r.ln) = netO c pe)))
theorem holdL_eq {c : Cf} {rts : List Rt} (h : RtOK rts) {p : Pt} {pe : Int} (hty : p.ty = 1) (hp : prefOK p.bt p.ln = true) (hpe : peOK pe = true) : holdL c rts p.bt p.ln pe = holdsP c rts p pe := by
  have hO : ∀ q, peOK q = true → netO c q = netF c q := fun q hq => by unfold netO; rw [if_pos hq]
  obtain ⟨p0, p1, p2, p3, p4⟩ := prefOK_bd hp
  have hB : (rts.all fun r => !((decide (p.ln < r.ln) && cov p.bt p.ln r.bt r.ln) && !decide (netO c (best rts r.bt r.ln) = netO c pe))) = below c rts p.bt p.ln pe := by
    unfold below
    rw [Bool.eq_iff_iff, List.all_eq_true, List.all_eq_true]
    have hone : ∀ r ∈ rts, (!((decide (p.ln < r.ln) && cov p.bt p.ln r.bt r.ln) && !decide (netO c (best rts r.bt r.ln) = netO c pe))) = (!(decide (p.ln < r.ln) && decide (cutB r.bt p.ln = p.bt)) || decide (netF c (best rts r.bt r.ln) = netF c pe)) := by
      intro r hr
      have hb4 : best rts r.bt r.ln ≠ 4 := fun e => (best_four h r.bt r.ln).1 e r hr ⟨rfl, rfl⟩
      rw [hO _ (best_mem hb4), hO _ hpe]
      have hc : (decide (p.ln < r.ln) && cov p.bt p.ln r.bt r.ln) = (decide (p.ln < r.ln) && decide (cutB r.bt p.ln = p.bt)) := by
        by_cases hlt : p.ln < r.ln
        · rw [decide_eq_true hlt, Bool.true_and, Bool.true_and, Bool.eq_iff_iff, cov_cut _ _ hp, decide_eq_true_eq]
          exact ⟨fun e => e.2, fun e => ⟨by omega, e⟩⟩
        · rw [decide_eq_false hlt]; rfl
      rw [hc]
      cases (decide (p.ln < r.ln) && decide (cutB r.bt p.ln = p.bt)) <;> simp
    exact ⟨fun hh r hr => (hone r hr).symm.trans (hh r hr), fun hh r hr => (hone r hr).trans (hh r hr)⟩
  unfold holdL holdsP
  rw [hB]
  obtain ⟨s1, s2⟩ := lcF_spec p.bt p.ln rts ⟨false, 0, 0⟩
  have hkey : ∀ k : Nat, k ≤ p.ln.toNat → best rts (cutB p.bt k) k ≠ 4 → ∃ r ∈ rts, cov r.bt r.ln p.bt p.ln = true ∧ r.ln = k := by
    intro k hk hne
    apply Classical.byContradiction
    intro hno
    apply hne
    rw [best_four h]
    intro r hr he
    exact hno ⟨r, hr, (cov_cut _ _ (h r hr).2.1).2 ⟨by omega, by rw [he.2]; exact he.1.symm⟩, he.2⟩
  cases hfd : (lcF p.bt p.ln ⟨false, 0, 0⟩ rts).fd
  · have hw : who rts p.bt p.ln.toNat = 4 := by
      apply who_none
      intro m hm
      apply Classical.byContradiction
      intro hne
      obtain ⟨r, hr, hc, _⟩ := hkey m hm hne
      rw [(s1 hfd).2 r hr] at hc
      cases hc
    rw [hw]
    simp
  · obtain ⟨t1, _, t3⟩ := s2 hfd
    have t1' : ∃ r ∈ rts, cov r.bt r.ln p.bt p.ln = true ∧ (lcF p.bt p.ln ⟨false, 0, 0⟩ rts).bt = r.bt ∧ (lcF p.bt p.ln ⟨false, 0, 0⟩ rts).ln = r.ln := by
      rcases t1 with t1 | t1
      · rw [t1] at hfd; cases hfd
      · exact t1
    obtain ⟨q, hq, hqc, e1, e2⟩ := t1'
    rw [e2] at t3
    rw [e1, e2]
    have hqp := (h q hq).2.1
    obtain ⟨q0, q1, _⟩ := prefOK_bd hqp
    have hqc' := (cov_cut _ _ hqp).1 hqc
    have hb4 : best rts q.bt q.ln ≠ 4 := fun e => (best_four h q.bt q.ln).1 e q hq ⟨rfl, rfl⟩
    have hcast : ((q.ln.toNat : Nat) : Int) = q.ln := Int.toNat_of_nonneg q0
    have hw : who rts p.bt p.ln.toNat = best rts q.bt q.ln := by
      have := who_some (rts := rts) (bt := p.bt) (m := q.ln.toNat) (by rw [hcast, hqc'.2]; exact hb4) p.ln.toNat (by omega) (fun k k1 k2 => by
        apply Classical.byContradiction
        intro hne
        obtain ⟨r, hr, hc, hrk⟩ := hkey k k2 hne
        have := t3 r hr hc
        omega)
      rw [this, hcast, hqc'.2]
    rw [hw, hO _ (best_mem hb4), hO _ hpe, hty]
    simp [hb4]
end Go.Proofs.YtgkiknfpcbcnnaaGreat
namespace Go.Proofs.YtgkiknfpcbcnnaaGreat
open Go.RowKit
set_option maxRecDepth 20000
structure Off (F : Nat → Prop) (w w' : World) : Prop where
  os : w'.os = w.os
  tape : w'.tape = w.tape
  output : w'.output = w.output
  size : w.heap.size ≤ w'.heap.size
  block : ∀ k, k < w.heap.size → ¬ F k → w'.heap[k]? = w.heap[k]?
theorem Off.refl (F : Nat → Prop) (w : World) : Off F w w := ⟨rfl, rfl, rfl, Nat.le_refl _, fun _ _ _ => rfl⟩
theorem Off.of {F : Nat → Prop} {w w' : World} (h : Below w.heap.size w w') : Off F w w' := ⟨h.os, h.tape, h.output, h.size, fun k hk _ => h.block k hk⟩
theorem Off.trans {F G : Nat → Prop} {w w' w'' : World} (h : Off F w w') (k : Off G w' w'') (hG : ∀ b, G b → F b ∨ w.heap.size ≤ b) : Off F w w'' :=
  ⟨k.os.trans h.os, k.tape.trans h.tape, k.output.trans h.output, Nat.le_trans h.size k.size, fun i hi hn => (k.block i (Nat.lt_of_lt_of_le hi h.size) (fun hg => by rcases hG i hg with hf | hf; exact hn hf; omega)).trans (h.block i hi hn)⟩
theorem Off.mono {F G : Nat → Prop} {w w' : World} (h : Off F w w') (hG : ∀ b, F b → G b) : Off G w w' := ⟨h.os, h.tape, h.output, h.size, fun k hk hn => h.block k hk (fun hf => hn (hG k hf))⟩
theorem Off.then {F : Nat → Prop} {w w' w'' : World} (h : Off F w w') (k : Below w'.heap.size w' w'') : Off F w w'' := h.trans (Off.of (F := fun _ => False) k) (fun _ hb => hb.elim)
theorem Off.setCell {F : Nat → Prop} {w w' : World} (h : Off F w w') {a : Addr} (ha : F a.block ∨ w.heap.size ≤ a.block) (v : Value) : Off F w (w'.setCell a v) :=
  ⟨h.os, h.tape, h.output, by simp only [World.setCell, Array.size_modify]; exact h.size, fun k hk hn => by
    rw [Below.heap_setCell _ _ _ _ (fun e => by subst e; rcases ha with hf | hf; exact hn hf; omega)]
    exact h.block k hk hn⟩
theorem ownsRow_same {w w' : World} {B : Nat} {e : TypeId} {size : Nat} {v : Value} {n : Nat} {xs : List Value} (h : w.ownsRow B e size v n xs) (hs : ∀ b, v.ownBlock = some b → w'.heap[b]? = w.heap[b]?) : w'.ownsRow B e size v n xs := by
  refine ⟨h.1, ?_⟩
  rcases h.2 with h | ⟨g, cap, cur, rfl, hg, hh, r⟩
  · exact .inl h
  · exact .inr ⟨g, cap, cur, rfl, hg, by rw [hs g rfl]; exact hh, r⟩
structure RuleF (w : World) (F : Nat → Prop) (v : Value) (tx : ByteArray) : Prop where
  ex : ∃ ao cap qs, v = .slice ao (dS tx).length cap ∧ qs.map Prod.fst = dS tx ∧ RuleAt w 0 v qs ∧ (∀ b, v.ownBlock = some b → F b) ∧ ∀ q ∈ qs, ∀ b, q.2.ownBlock = some b → F b
theorem RuleF.same {w w' : World} {F : Nat → Prop} {v : Value} {tx : ByteArray} (h : RuleF w F v tx) (hs : ∀ b, F b → w'.heap[b]? = w.heap[b]?) : RuleF w' F v tx := by
  obtain ⟨ao, cap, qs, h1, h2, h3, h4, h5⟩ := h.ex
  exact ⟨ao, cap, qs, h1, h2, ⟨ownsRow_same h3.parts (fun b hb => hs b (h4 b hb)), fun q hq => ownsRow_same (h3.terms q hq) (fun b hb => hs b (h5 q hq b hb)), h3.apart⟩, h4, h5⟩
theorem RuleF.mono {w : World} {F G : Nat → Prop} {v : Value} {tx : ByteArray} (h : RuleF w F v tx) (hG : ∀ b, F b → G b) : RuleF w G v tx := by
  obtain ⟨ao, cap, qs, h1, h2, h3, h4, h5⟩ := h.ex
  exact ⟨ao, cap, qs, h1, h2, h3, fun b hb => hG b (h4 b hb), fun q hq b hb => hG b (h5 q hq b hb)⟩
theorem RuleF.reads {w : World} {F : Nat → Prop} {v : Value} {tx : ByteArray} (h : RuleF w F v tx) : ∃ ao cap, v = .slice ao (dS tx).length cap ∧ PartsIn w ao (dS tx) := by
  obtain ⟨ao, cap, qs, rfl, h2, h3, _, _⟩ := h.ex
  exact ⟨ao, cap, rfl, h3.reads2 h2 rfl (dS_small tx).2⟩
structure Sd where
  r : Rl
  v : Value
  ky : ByteArray
  cv : Value
  cs : List ByteArray
def rtC (r : Rt) : List Value := [.int .i64 r.pe, .int .i64 r.bt, .int .i64 r.ln, .int .i64 r.pa]
def rtCs (l : List Rt) : List Value := l.flatMap rtC
def sdC (s : Sd) : List Value := [.string s.r.tx, .int .i64 s.r.pe, .int .i64 s.r.ac, s.v, .string s.ky, .int .i64 (nS (dS s.r.tx) : Nat), s.cv]
def sdCs (l : List Sd) : List Value := l.flatMap sdC
structure SdOK (w : World) (F : Nat → Prop) (s : Sd) : Prop where
  rule : RuleF w F s.v s.r.tx
  key : bl s.ky = keyR (dS s.r.tx)
  row : StrRow w 0 s.cv s.cs
  cubes : s.cs.map bl = cbL s.r.tx
  inF : ∀ b, s.cv.ownBlock = some b → F b
theorem SdOK.same {w w' : World} {F : Nat → Prop} {s : Sd} (h : SdOK w F s) (hs : ∀ b, F b → w'.heap[b]? = w.heap[b]?) : SdOK w' F s :=
  ⟨h.rule.same hs, h.key, ownsRow_same h.row (fun b hb => hs b (h.inF b hb)), h.cubes, h.inF⟩
theorem SdOK.mono {w : World} {F G : Nat → Prop} {s : Sd} (h : SdOK w F s) (hG : ∀ b, F b → G b) : SdOK w G s :=
  ⟨h.rule.mono hG, h.key, h.row, h.cubes, fun b hb => hG b (h.inF b hb)⟩
structure RGate (w : World) (g : Nat) (st : Gs) (F : Nat → Prop) : Prop where
  ex : ∃ rv lv qs, w.heap[g]? = some (.cells #[.int .i64 st.c.cp, .int .i64 st.c.bu, .int .i64 st.c.n0, .int .i64 st.c.n1, .int .i64 st.c.n2, .int .i64 st.c.n3, rv, lv] 77 (0, 0)) ∧
    w.ownsRow 0 104 4 rv st.rts.length (rtCs st.rts) ∧ w.ownsRow 0 119 7 lv st.rls.length (sdCs qs) ∧ qs.map Sd.r = st.rls ∧ (∀ s ∈ qs, SdOK w (fun b => F b ∧ b ≠ g) s) ∧
    (∀ b, rv.ownBlock = some b → F b ∧ b ≠ g) ∧ (∀ b, lv.ownBlock = some b → F b ∧ b ≠ g)
  own : F g
  ok : GsOK st
  lt : ∀ b, F b → b < w.heap.size
theorem RGate.same {w w' : World} {g : Nat} {st : Gs} {F : Nat → Prop} (h : RGate w g st F) (hz : w.heap.size ≤ w'.heap.size) (hs : ∀ b, F b → w'.heap[b]? = w.heap[b]?) : RGate w' g st F := by
  obtain ⟨rv, lv, qs, h1, h2, h3, h4, h5, h6, h7⟩ := h.ex
  refine ⟨⟨rv, lv, qs, by rw [hs g h.own]; exact h1, ownsRow_same h2 (fun b hb => hs b (h6 b hb).1), ownsRow_same h3 (fun b hb => hs b (h7 b hb).1), h4, fun s hq => (h5 s hq).same (fun b hb => hs b hb.1), h6, h7⟩, h.own, h.ok, fun b hb => by have := h.lt b hb; omega⟩
end Go.Proofs.YtgkiknfpcbcnnaaGreat
