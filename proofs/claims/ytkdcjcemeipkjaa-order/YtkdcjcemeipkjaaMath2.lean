import Derived.Test.YtkdcjcemeipkjaaMath1
namespace Go.Proofs.Ytkdcjcemeipkjaa
open Go.RowKit
set_option maxRecDepth 20000

theorem At_le {s : ByteArray} {a : Nat} {x : ByteArray} (h : At s a x) (ha : a ≤ s.size) : a + x.size ≤ s.size := by
  have := h.length_le
  rw [List.length_drop, bl_len, bl_len] at this
  omega

theorem mxV_bd (b : Bool) : mxV b ≤ 65535 ∧ (vB b = 1 → mxV b = 255) := by cases b <;> simp [mxV, vB]

theorem wTerm_At (s : ByteArray) (a : Nat) (k : Int) (t : Tm) (last : Bool) (h : isT k t = true) (ha : At s a (wTerm t last)) :
    a < s.size ∧ byt s a = mk t last ∧ a + 1 + (vB t.wd).toNat ≤ s.size ∧ num s ((a : Int) + 1) (vB t.wd).toNat = t.vl ∧ (wTerm t last).size = 1 + (vB t.wd).toNat := by
  obtain ⟨m0, m1, _⟩ := mk_facts t last k h
  obtain ⟨_, _, v0, v1⟩ := isT_bd k t h
  have vb := vB_bd t.wd
  have mb := mxV_bd t.wd
  unfold wTerm at ha ⊢
  rw [At_app, At_ch s a _ m0 m1, ch_size] at ha
  obtain ⟨⟨h1, h2⟩, h3⟩ := ha
  rw [At_num s (a + 1) t.vl (vB t.wd) (by omega) (by omega) v0 (by omega) (fun h => by have := mb.2 h; omega) (by omega) (by omega)] at h3
  refine ⟨h1, h2, h3.1, ?_, ?_⟩
  · have := h3.2; simpa using this
  · have := wNum_size t.vl (vB t.wd) (by omega) (by omega)
    rw [ByteArray.size_append, ch_size]; omega

theorem rdTerms_complete (s : ByteArray) (k : Int) : ∀ (ts : List Tm) (n : Nat) (f : Bool) (a : Nat), allT k f ts = true → 1 ≤ ts.length → ts.length ≤ n → At s a (wTerms ts) →
    rdTerms s k n f a = some (ts, a + (wTerms ts).size) := by
  intro ts
  induction ts with
  | nil => intro n f a _ h; simp at h
  | cons t r ih =>
    intro n f a hall _ hn hat
    obtain ⟨n, rfl⟩ : ∃ m, n = m + 1 := ⟨n - 1, by simp at hn; omega⟩
    simp only [allT, Bool.and_eq_true, Bool.not_eq_true'] at hall
    obtain ⟨⟨hf, ht⟩, hr⟩ := hall
    simp only [wTerms, At_app] at hat
    obtain ⟨h1, h2, h3, h4, h5⟩ := wTerm_At s a k t _ ht hat.1
    obtain ⟨m0, m1, m2, m3, m4, m5, m6⟩ := mk_facts t r.isEmpty k ht
    rw [← h2] at m2 m3 m4 m5 m6
    have hin : a < s.size ∧ mOK (byt s a) k f = true ∧ a + 1 + (vB (mWide (byt s a))).toNat ≤ s.size := ⟨h1, by rw [m6 f, hf]; rfl, by rw [m4]; exact h3⟩
    cases r with
    | nil =>
      rw [rdTerms_last s k n f a hin (by rw [m2]; rfl), m3, m4, m5, h4]
      have e : (wTerms [t]).size = 1 + (vB t.wd).toNat := by simp only [wTerms, ByteArray.size_append]; rw [h5]; rfl
      rw [e]
      simp; omega
    | cons t2 r2 =>
      rw [rdTerms_more s k n f a hin (by rw [m2]; rfl), m3, m4, m5, h4]
      have e : a + 1 + (vB t.wd).toNat = a + (wTerm t (t2 :: r2).isEmpty).size := by rw [h5]; omega
      rw [e, ih n false _ hr (by simp) (by simpa using hn) hat.2]
      simp [wTerms, ByteArray.size_append]; omega

theorem rdTerms_sound (s : ByteArray) (k : Int) : ∀ (n : Nat) (f : Bool) (a : Nat) (ts : List Tm) (m : Nat), rdTerms s k n f a = some (ts, m) →
    allT k f ts = true ∧ 1 ≤ ts.length ∧ ts.length ≤ n ∧ At s a (wTerms ts) ∧ m = a + (wTerms ts).size := by
  intro n
  induction n with
  | zero => intro f a ts m h; simp [rdTerms] at h
  | succ n ih =>
    intro f a ts m h
    by_cases hs : a < s.size ∧ mOK (byt s a) k f = true ∧ a + 1 + (vB (mWide (byt s a))).toNat ≤ s.size
    · have m0 := byt_nonneg s a
      have m1 := byt_le s a
      have vb := vB_bd (mWide (byt s a))
      obtain ⟨k1, k2, k3, k4, k5⟩ := mk_back (byt s a) k (num s (a + 1) (vB (mWide (byt s a))).toNat) f m0 m1 hs.2.1
      have nb := num_bd s (a + 1) (vB (mWide (byt s a))).toNat (by omega)
      have hT : isT k ⟨mAnd (byt s a), mWide (byt s a), mOp (byt s a) k, num s (a + 1) (vB (mWide (byt s a))).toNat⟩ = true := by
        unfold isT
        simp only [k3, Bool.not_false, Bool.true_and, Bool.and_eq_true, decide_eq_true_eq]
        refine ⟨⟨⟨k4, k5⟩, nb.1⟩, ?_⟩
        cases hw : mWide (byt s a)
        · rw [hw] at nb; exact nb.2.2.1 (by simp [vB])
        · rw [hw] at nb; exact nb.2.1
      have hat : At s a (wTerm ⟨mAnd (byt s a), mWide (byt s a), mOp (byt s a) k, num s (a + 1) (vB (mWide (byt s a))).toNat⟩ (mLast (byt s a))) := by
        unfold wTerm
        rw [At_app, k1, At_ch s a _ m0 m1, ch_size]
        refine ⟨⟨hs.1, rfl⟩, ?_⟩
        dsimp only
        rw [At_num s (a + 1) _ _ (by omega) (by omega) nb.1 nb.2.1 (fun h => nb.2.2.1 (by omega)) (by omega) (by omega)]
        exact ⟨hs.2.2, rfl⟩
      have hsz : (wTerm ⟨mAnd (byt s a), mWide (byt s a), mOp (byt s a) k, num s (a + 1) (vB (mWide (byt s a))).toNat⟩ (mLast (byt s a))).size = 1 + (vB (mWide (byt s a))).toNat := by
        unfold wTerm
        dsimp only
        have := wNum_size (num s (a + 1) (vB (mWide (byt s a))).toNat) (vB (mWide (byt s a))) (by omega) (by omega)
        rw [ByteArray.size_append, ch_size]; omega
      cases hl : mLast (byt s a)
      · rw [rdTerms_more _ _ _ _ _ hs hl] at h
        cases hr : rdTerms s k n false (a + 1 + (vB (mWide (byt s a))).toNat) with
        | none => rw [hr] at h; cases h
        | some r =>
          rw [hr] at h
          obtain ⟨t1, m1⟩ := r
          obtain ⟨i1, i2, i3, i4, i5⟩ := ih _ _ _ _ hr
          simp only [Option.map_some, Option.some.injEq, Prod.mk.injEq] at h
          obtain ⟨rfl, rfl⟩ := h
          have he : t1.isEmpty = false := by cases t1 <;> simp at i2 ⊢
          rw [hl] at hat hsz
          refine ⟨?_, by simp, by simpa using i3, ?_, ?_⟩
          · simp only [allT, k2, hT, i1]; rfl
          · simp only [wTerms, At_app, he]
            refine ⟨hat, ?_⟩
            rw [hsz]
            have e : a + (1 + (vB (mWide (byt s a))).toNat) = a + 1 + (vB (mWide (byt s a))).toNat := by omega
            rw [e]; exact i4
          · simp only [wTerms, ByteArray.size_append, he, hsz]; omega
      · rw [rdTerms_last _ _ _ _ _ hs hl] at h
        simp only [Option.some.injEq, Prod.mk.injEq] at h
        obtain ⟨rfl, rfl⟩ := h
        rw [hl] at hat hsz
        refine ⟨?_, by simp, by simp, ?_, ?_⟩
        · simp only [allT, k2, hT]; rfl
        · simp only [wTerms, At_app]
          exact ⟨hat, At_nil _ _⟩
        · simp only [wTerms, ByteArray.size_append, List.isEmpty_nil, hsz]
          show _ = a + (1 + (vB (mWide (byt s a))).toNat + 0)
          omega
    · rw [rdTerms_stop _ _ _ _ _ hs] at h; cases h

theorem prefOK_bd {b l : Int} (h : prefOK b l = true) : 0 ≤ l ∧ l ≤ 16 ∧ 0 ≤ b ∧ b ≤ 65535 ∧ b % 2 ^ (16 - l).toNat = 0 := by
  unfold prefOK at h
  simp only [Bool.and_eq_true, decide_eq_true_eq] at h
  exact ⟨h.1.1.1.1, h.1.1.1.2, h.1.1.2, h.1.2, h.2⟩

/-- Of eight bits and fewer, the low byte is nought; of none, all. -/
theorem prefOK_low {b l : Int} (h : prefOK b l = true) : (pB l = 1 → b % 256 = 0) ∧ (pB l = 0 → b = 0) := by
  obtain ⟨h0, h1, b0, b1, hm⟩ := prefOK_bd h
  constructor
  · intro hp
    have hl : l ≤ 8 := by unfold pB at hp; split at hp <;> omega
    obtain ⟨j, hj⟩ : ∃ j : Nat, (16 - l).toNat = 8 + j := ⟨(8 - l).toNat, by omega⟩
    rw [hj, Int.pow_add] at hm
    have hd : ((2 : Int) ^ 8 * 2 ^ j) ∣ b := Int.dvd_of_emod_eq_zero hm
    have h256 : (256 : Int) ∣ b := Int.dvd_trans ⟨2 ^ j, by simp⟩ hd
    exact Int.emod_eq_zero_of_dvd h256
  · intro hp
    have hl : l = 0 := by unfold pB at hp; split at hp <;> (try split at hp) <;> omega
    subst hl
    have : b % 65536 = 0 := by simpa using hm
    omega

theorem rdPref_complete (s : ByteArray) (a : Nat) (b l : Int) (h : prefOK b l = true) (hat : At s a (wPref b l)) : rdPref s a = some (b, l, a + (wPref b l).size) := by
  obtain ⟨h0, h1, b0, b1, hm⟩ := prefOK_bd h
  obtain ⟨e1, e2⟩ := prefOK_low h
  have pb := pB_bd l
  have hsz : (wPref b l).size = 1 + (pB l).toNat := by
    unfold wPref
    have := wNum_size (if pB l = 1 then b / 256 else b) (pB l) (by omega) (by omega)
    rw [ByteArray.size_append, ch_size]; omega
  unfold wPref at hat
  rw [At_app, At_ch s a l h0 (by omega), ch_size] at hat
  obtain ⟨⟨h2, h3⟩, h4⟩ := hat
  rw [At_num s (a + 1) _ _ pb.1 pb.2 (by split <;> omega) (by split <;> omega) (fun e => by rw [if_pos e]; omega) (fun e => by rw [if_neg (by omega)]; exact e2 e) (by omega)] at h4
  unfold rdPref
  rw [if_pos h2]
  simp only [h3]
  have hn : num s ((a : Int) + 1) (pB l).toNat = if pB l = 1 then b / 256 else b := by have := h4.2; simpa using this
  rw [if_pos h4.1, hn]
  have hb : (if (pB l).toNat = 1 then (if pB l = 1 then b / 256 else b) * 256 else if pB l = 1 then b / 256 else b) = b := by
    by_cases e : pB l = 1
    · rw [if_pos (by omega), if_pos e]; have := e1 e; omega
    · rw [if_neg (by omega), if_neg e]
  rw [hb, if_pos h, hsz]
  simp; omega

theorem rdPref_sound (s : ByteArray) (a : Nat) (b l : Int) (m : Nat) (h : rdPref s a = some (b, l, m)) : prefOK b l = true ∧ At s a (wPref b l) ∧ m = a + (wPref b l).size := by
  unfold rdPref at h
  split at h
  · rename_i ha
    simp only [] at h
    have pb := pB_bd (byt s a)
    have l0 := byt_nonneg s a
    have l1 := byt_le s a
    split at h
    · rename_i hc
      obtain ⟨n0, n1, n2, n3⟩ := num_bd s (a + 1) (pB (byt s a)).toNat (by omega)
      have key : ∀ B : Int, (B = if (pB (byt s a)).toNat = 1 then num s (a + 1) (pB (byt s a)).toNat * 256 else num s (a + 1) (pB (byt s a)).toNat) → prefOK B (byt s a) = true →
          At s a (wPref B (byt s a)) ∧ a + 1 + (pB (byt s a)).toNat = a + (wPref B (byt s a)).size := by
        intro B hB hok
        have hn : (if pB (byt s a) = 1 then B / 256 else B) = num s (a + 1) (pB (byt s a)).toNat := by
          subst hB
          by_cases e : pB (byt s a) = 1
          · rw [if_pos e, if_pos (by omega)]; omega
          · rw [if_neg e, if_neg (by omega)]
        constructor
        · unfold wPref
          rw [At_app, At_ch s a _ l0 l1, ch_size, hn]
          refine ⟨⟨ha, rfl⟩, ?_⟩
          rw [At_num s (a + 1) _ _ pb.1 pb.2 n0 n1 (fun e => n2 (by omega)) (fun e => n3 (by omega)) (by omega)]
          exact ⟨hc, rfl⟩
        · unfold wPref
          have := wNum_size (if pB (byt s a) = 1 then B / 256 else B) (pB (byt s a)) (by omega) (by omega)
          rw [ByteArray.size_append, ch_size]; omega
      generalize hB : (if (pB (byt s a)).toNat = 1 then num s (a + 1) (pB (byt s a)).toNat * 256 else num s (a + 1) (pB (byt s a)).toNat) = B at h key
      split at h
      · rename_i hok
        simp only [Option.some.injEq, Prod.mk.injEq] at h
        obtain ⟨rfl, rfl, rfl⟩ := h
        exact ⟨hok, (key _ rfl hok).1, (key _ rfl hok).2⟩
      · cases h
    · cases h
  · cases h

theorem rdPart_complete (s : ByteArray) (a : Nat) (p : Pt) (h : isP p = true) (hat : At s a (wPart p)) : rdPart s a = some (p, a + (wPart p).size) := by
  obtain ⟨ty, bt, ln, ts⟩ := p
  have hty := isP_ty h
  dsimp only at hty
  unfold wPart at hat ⊢
  dsimp only at hat ⊢
  cases hk : hasP ty
  · obtain ⟨h1, h2, h3, h4, h5, h6⟩ := isP_terms h hk
    dsimp only at h1 h2 h3 h4 h5 h6
    subst h2 h3
    simp only [hk, Bool.false_eq_true, if_false, At_app, ch_size] at hat ⊢
    rw [At_ch s a ty (by omega) (by omega)] at hat
    obtain ⟨⟨q1, q2⟩, q3⟩ := hat
    rw [rdPart_terms s a q1 (by rw [q2]; exact hk) (by rw [q2]; exact h1), q2, rdTerms_complete s ty ts 8 true (a + 1) h6 h4 h5 q3]
    simp [ByteArray.size_append, ch_size]; omega
  · obtain ⟨h1, h2⟩ := isP_pref h hk
    dsimp only at h1 h2
    subst h1
    simp only [hk, if_true, At_app, ch_size] at hat ⊢
    rw [At_ch s a ty (by omega) (by omega)] at hat
    obtain ⟨⟨q1, q2⟩, q3⟩ := hat
    rw [rdPart_pref s a q1 (by rw [q2]; exact hk), q2, rdPref_complete s (a + 1) bt ln h2 q3]
    simp [ByteArray.size_append, ch_size]; omega

theorem rdPart_sound (s : ByteArray) (a : Nat) (p : Pt) (m : Nat) (h : rdPart s a = some (p, m)) : isP p = true ∧ At s a (wPart p) ∧ m = a + (wPart p).size := by
  by_cases ha : a < s.size
  · have l0 := byt_nonneg s a
    have l1 := byt_le s a
    cases hp : hasP (byt s a)
    · cases ht : hasT (byt s a)
      · rw [rdPart_none s a hp ht] at h; cases h
      · rw [rdPart_terms s a ha hp ht] at h
        cases hr : rdTerms s (byt s a) 8 true (a + 1) with
        | none => rw [hr] at h; cases h
        | some r =>
          rw [hr] at h
          obtain ⟨ts, m'⟩ := r
          obtain ⟨i1, i2, i3, i4, i5⟩ := rdTerms_sound s _ _ _ _ _ _ hr
          simp only [Option.map_some, Option.some.injEq, Prod.mk.injEq] at h
          obtain ⟨rfl, rfl⟩ := h
          refine ⟨?_, ?_, ?_⟩
          · unfold isP areT; simp [hp, ht, i1]; omega
          · unfold wPart; dsimp only; rw [if_neg (by simp [hp]), At_app, At_ch s a _ l0 l1, ch_size]; exact ⟨⟨ha, rfl⟩, i4⟩
          · unfold wPart; dsimp only; rw [if_neg (by simp [hp]), ByteArray.size_append, ch_size]; omega
    · rw [rdPart_pref s a ha hp] at h
      cases hr : rdPref s (a + 1) with
      | none => rw [hr] at h; cases h
      | some r =>
        rw [hr] at h
        obtain ⟨b, l, m'⟩ := r
        obtain ⟨i1, i2, i3⟩ := rdPref_sound s _ _ _ _ hr
        simp only [Option.map_some, Option.some.injEq, Prod.mk.injEq] at h
        obtain ⟨rfl, rfl⟩ := h
        refine ⟨?_, ?_, ?_⟩
        · unfold isP; simp [hp, i1]
        · unfold wPart; dsimp only; rw [if_pos hp, At_app, At_ch s a _ l0 l1, ch_size]; exact ⟨⟨ha, rfl⟩, i2⟩
        · unfold wPart; dsimp only; rw [if_pos hp, ByteArray.size_append, ch_size]; omega
  · rw [rdPart_end s a ha] at h; cases h

theorem rdParts_complete (s : ByteArray) : ∀ (ps : List Pt) (n : Nat) (b : Int) (a : Nat), allP b ps = true → ps.length < n → At s a (wParts ps) → a + (wParts ps).size = s.size → rdParts s n b a = some ps := by
  intro ps
  induction ps with
  | nil =>
    intro n b a _ hn _ hs
    obtain ⟨n, rfl⟩ : ∃ m, n = m + 1 := ⟨n - 1, by simp at hn; omega⟩
    exact rdParts_end s n b a (by have : (wParts []).size = 0 := rfl; omega)
  | cons p r ih =>
    intro n b a hall hn hat hs
    obtain ⟨n, rfl⟩ : ∃ m, n = m + 1 := ⟨n - 1, by simp at hn; omega⟩
    simp only [allP, Bool.and_eq_true, decide_eq_true_eq] at hall
    simp only [wParts, At_app] at hat
    have hr := rdPart_complete s a p hall.1.2 hat.1
    have hb := rdPart_bd s a p _ hr
    simp only [wParts, ByteArray.size_append] at hs
    rw [rdParts_go s n b a p _ (by omega) hr (by omega), ih n p.ty _ hall.2 (by simpa using hn) hat.2 (by omega)]
    rfl

theorem rdParts_sound (s : ByteArray) : ∀ (n : Nat) (b : Int) (a : Nat) (ps : List Pt), rdParts s n b a = some ps → a ≤ s.size → allP b ps = true ∧ At s a (wParts ps) ∧ a + (wParts ps).size = s.size := by
  intro n
  induction n with
  | zero => intro b a ps h; cases h
  | succ n ih =>
    intro b a ps h hle
    by_cases ha : a < s.size
    · cases hr : rdPart s a with
      | none => rw [rdParts_no s _ b a ha hr] at h; cases h
      | some r =>
        obtain ⟨p, m⟩ := r
        by_cases hl : p.ty ≤ b
        · rw [rdParts_low s _ b a p m ha hr hl] at h; cases h
        · rw [rdParts_go s n b a p m ha hr hl] at h
          cases hq : rdParts s n p.ty m with
          | none => rw [hq] at h; cases h
          | some q =>
            rw [hq] at h
            simp only [Option.map_some, Option.some.injEq] at h
            subst h
            obtain ⟨i1, i2, i3⟩ := rdPart_sound s a p m hr
            have hb := rdPart_bd s a p m hr
            obtain ⟨j1, j2, j3⟩ := ih _ _ _ hq (by omega)
            subst i3
            refine ⟨?_, ?_, ?_⟩
            · simp [allP, i1, j1]; omega
            · simp only [wParts, At_app]; exact ⟨i2, j2⟩
            · simp only [wParts, ByteArray.size_append]; omega
    · rw [rdParts_end s n b a ha] at h
      simp only [Option.some.injEq] at h
      subst h
      exact ⟨rfl, At_nil _ _, by show a + 0 = _; omega⟩

theorem At_self (s : ByteArray) : At s 0 s := by unfold At; simp
theorem At_eq {s x : ByteArray} (h : At s 0 x) (hs : x.size = s.size) : x = s := by
  unfold At at h
  simp only [List.drop_zero] at h
  exact bl_inj (h.eq_of_length (by rw [bl_len, bl_len, hs]))

theorem wPart_pos (p : Pt) : 0 < (wPart p).size := by
  unfold wPart; split <;> rw [ByteArray.size_append, ch_size] <;> omega

theorem decS_complete (ps : List Pt) (h : isR ps = true) : decS (wParts ps) = some ps := by
  unfold isR at h
  simp only [Bool.and_eq_true, decide_eq_true_eq] at h
  have hl := allP_len ps 0 (by omega) (by omega) h.1
  unfold decS
  have hpos : 0 < (wParts ps).size := by
    cases ps with
    | nil => simp at h
    | cons p r => have := wPart_pos p; simp only [wParts, ByteArray.size_append]; omega
  rw [if_neg (by omega)]
  exact rdParts_complete _ ps 7 0 0 h.1 (by omega) (At_self _) (by omega)

theorem decS_sound (s : ByteArray) (ps : List Pt) (h : decS s = some ps) : isR ps = true ∧ wParts ps = s := by
  unfold decS at h
  split at h
  · cases h
  · rename_i hne
    obtain ⟨h1, h2, h3⟩ := rdParts_sound s _ _ _ _ h (by omega)
    have he := At_eq h2 (by omega)
    refine ⟨?_, he⟩
    unfold isR
    cases ps with
    | nil => exact absurd (show s.size = 0 by rw [← he]; rfl) hne
    | cons p r => simp [h1]

theorem decS_none (s : ByteArray) (h : ∀ ps, isR ps = true → wParts ps ≠ s) : decS s = none := by
  cases hd : decS s with
  | none => rfl
  | some ps => obtain ⟨h1, h2⟩ := decS_sound s ps hd; exact absurd h2 (h ps h1)
end Go.Proofs.Ytkdcjcemeipkjaa
