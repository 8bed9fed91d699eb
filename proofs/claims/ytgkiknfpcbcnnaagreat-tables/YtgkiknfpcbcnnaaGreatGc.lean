import Derived.Test.YtgkiknfpcbcnnaaGreatGb
namespace Go.Proofs.YtgkiknfpcbcnnaaGreat
open Go.RowKit
set_option maxRecDepth 20000
def bl (s : ByteArray) : List UInt8 := s.data.toList
theorem bl_len (s : ByteArray) : (bl s).length = s.size := by show s.data.toList.length = s.data.size; exact Array.length_toList
theorem bl_app (x y : ByteArray) : bl (x ++ y) = bl x ++ bl y := by simp [bl, ByteArray.data_append]
theorem bl_inj {x y : ByteArray} (h : bl x = bl y) : x = y := by
  apply ByteArray.ext
  exact Array.toList_inj.1 h
theorem bl_ch (n : Int) : bl (ch n) = [UInt8.ofNat n.toNat] := rfl
def At (s : ByteArray) (a : Nat) (x : ByteArray) : Prop := bl x <+: (bl s).drop a
theorem At_nil (s : ByteArray) (a : Nat) : At s a ⟨#[]⟩ := List.nil_prefix
theorem At_app (s : ByteArray) (a : Nat) (x y : ByteArray) : At s a (x ++ y) ↔ At s a x ∧ At s (a + x.size) y := by
  unfold At
  rw [bl_app, ← bl_len x, ← List.drop_drop]
  constructor
  · rintro ⟨r, hr⟩
    rw [← hr]
    exact ⟨⟨bl y ++ r, by simp⟩, ⟨r, by simp⟩⟩
  · rintro ⟨⟨r, hr⟩, h⟩
    rw [← hr] at h ⊢
    rw [List.drop_left] at h
    obtain ⟨q, hq⟩ := h
    exact ⟨q, by rw [← hq]; simp⟩
theorem byt_get (s : ByteArray) (a : Nat) (h : a < s.size) : byt s a = ((bl s)[a]'(by rw [bl_len]; exact h)).toNat := by
  unfold byt
  rw [dif_pos (by simpa using h)]
  rfl
theorem At_ch (s : ByteArray) (a : Nat) (n : Int) (h0 : 0 ≤ n) (h1 : n ≤ 255) : At s a (ch n) ↔ a < s.size ∧ byt s a = n := by
  unfold At
  rw [bl_ch]
  constructor
  · rintro ⟨r, hr⟩
    have hl := congrArg List.length hr
    simp [bl_len] at hl
    have ha : a < s.size := by omega
    refine ⟨ha, ?_⟩
    rw [byt_get s a ha]
    have hd := List.drop_eq_getElem_cons (l := bl s) (i := a) (by rw [bl_len]; exact ha)
    rw [hd] at hr
    have e := (List.cons.inj hr).1
    rw [← e]
    rw [UInt8.toNat_ofNat_of_lt' (by show n.toNat < 256; omega)]; omega
  · rintro ⟨ha, hb⟩
    rw [byt_get s a ha] at hb
    have hd := List.drop_eq_getElem_cons (l := bl s) (i := a) (by rw [bl_len]; exact ha)
    rw [hd]
    refine ⟨(bl s).drop (a + 1), ?_⟩
    have e : UInt8.ofNat n.toNat = (bl s)[a]'(by rw [bl_len]; exact ha) := by
      rw [← hb]
      simp
    rw [e]; rfl
theorem At_num (s : ByteArray) (a : Nat) (n c : Int) (c0 : 0 ≤ c) (c2 : c ≤ 2) (h0 : 0 ≤ n) (h1 : n ≤ 65535) (h2 : c = 1 → n ≤ 255) (h3 : c = 0 → n = 0) (ha : a ≤ s.size) :
    At s a (wNum n c) ↔ a + c.toNat ≤ s.size ∧ num s a c.toNat = n := by
  unfold wNum
  by_cases e0 : c = 0
  · subst e0
    rw [if_pos rfl]
    have := h3 rfl
    subst this
    exact ⟨fun _ => ⟨by simpa using ha, rfl⟩, fun _ => At_nil _ _⟩
  rw [if_neg e0]
  by_cases e1 : c = 1
  · subst e1
    rw [if_pos rfl, At_ch s a n h0 (h2 rfl)]
    have e : num s a (1 : Int).toNat = byt s a := by show num s a 0 * 256 + byt s (a + (0 : Nat)) = _; simp [num]
    rw [e]
    simp
    omega
  · obtain rfl : c = 2 := by omega
    rw [if_neg e1, At_app, At_ch s a (n / 256) (by omega) (by omega), At_ch s _ (n % 256) (by omega) (by omega)]
    have e : num s a (2 : Int).toNat = byt s a * 256 + byt s (a + 1 : Nat) := by
      show (num s a 0 * 256 + byt s (a + (0 : Nat))) * 256 + byt s (a + (1 : Nat)) = _
      simp [num]
    rw [e, ch_size]
    have b0 := byt_nonneg s (a + 1 : Nat)
    have b1 := byt_le s (a + 1 : Nat)
    simp only [Int.reduceToNat]
    constructor
    · rintro ⟨⟨x1, x2⟩, x3, x4⟩
      exact ⟨by omega, by rw [x2, x4]; omega⟩
    · rintro ⟨x1, x2⟩
      refine ⟨⟨by omega, ?_⟩, by omega, ?_⟩ <;> omega
theorem mk_facts (t : Tm) (last : Bool) (k : Int) (h : isT k t = true) :
    0 ≤ mk t last ∧ mk t last ≤ 255 ∧ mLast (mk t last) = last ∧ mAnd (mk t last) = t.an ∧ mWide (mk t last) = t.wd ∧ mOp (mk t last) k = t.op ∧ ∀ f, mOK (mk t last) k f = !(t.an && f) := by
  obtain ⟨an, wd, op, vl⟩ := t
  unfold isT at h
  simp only [Bool.and_eq_true, decide_eq_true_eq, Bool.not_eq_true', Bool.and_eq_false_iff] at h
  obtain ⟨⟨⟨⟨hw, h0⟩, h1⟩, _⟩, _⟩ := h
  simp only [mk, mLast, mAnd, mWide, mOp, mOK]
  by_cases hk : k = 5
  · subst hk
    have hwd : wd = false := by rcases hw with h | h <;> simp_all
    subst hwd
    have h1' : op ≤ 3 := h1
    clear h1 hw
    cases an <;> cases last <;> simp only [b2, if_true, Bool.false_eq_true, if_false] <;>
      refine ⟨by omega, by omega, by simp; omega, by simp; omega, by simp; omega, by omega, ?_⟩ <;> intro f <;> cases f <;> simp <;> omega
  · have h1' : op ≤ 7 := by simpa [opM, hk] using h1
    clear h1 hw
    cases an <;> cases wd <;> cases last <;> simp only [b2, if_true, Bool.false_eq_true, if_false, hk] <;>
      refine ⟨by omega, by omega, by simp; omega, by simp; omega, by simp; omega, by omega, ?_⟩ <;> intro f <;> cases f <;> simp <;> omega
theorem mk_back (m k v : Int) (f : Bool) (h0 : 0 ≤ m) (h1 : m ≤ 255) (h : mOK m k f = true) :
    mk ⟨mAnd m, mWide m, mOp m k, v⟩ (mLast m) = m ∧ (mAnd m && f) = false ∧ (mWide m && decide (k = 5)) = false ∧ 0 ≤ mOp m k ∧ mOp m k ≤ opM k := by
  unfold mOK at h
  simp only [Bool.and_eq_true, Bool.or_eq_true, Bool.not_eq_true', decide_eq_true_eq] at h
  obtain ⟨hm, hf⟩ := h
  by_cases hk : k = 5
  · subst hk
    simp only [if_true, decide_eq_true_eq] at hm
    have hw : mWide m = false := by unfold mWide; simp; omega
    refine ⟨?_, ?_, by simp [hw], by unfold mOp; simp; omega, by unfold mOp opM; simp; omega⟩
    · simp only [mk, hw, mAnd, mLast, mOp, b2, if_true, Bool.false_eq_true, if_false, decide_eq_true_eq]
      split <;> split <;> omega
    · rcases hf with rfl | hf
      · simp
      · unfold mAnd; simp; omega
  · simp only [if_neg hk, Bool.and_eq_true, decide_eq_true_eq] at hm
    refine ⟨?_, ?_, by simp [hk], by unfold mOp; simp only [if_neg hk]; omega, by unfold mOp opM; simp only [if_neg hk]; omega⟩
    · simp only [mk, mWide, mAnd, mLast, mOp, b2, if_neg hk, decide_eq_true_eq]
      split <;> split <;> split <;> omega
    · rcases hf with rfl | hf
      · simp
      · unfold mAnd; simp; omega
end Go.Proofs.YtgkiknfpcbcnnaaGreat
namespace Go.Proofs.YtgkiknfpcbcnnaaGreat
open Go.RowKit
set_option maxRecDepth 20000
theorem mxV_bd (b : Bool) : mxV b ≤ 65535 ∧ (vB b = 1 → mxV b = 255) := by cases b <;> simp [mxV, vB]
theorem wTerm_At (s : ByteArray) (a : Nat) (k : Int) (t : Tm) (last : Bool) (h : isT k t = true) (ha : At s a (wTerm t last)) :
    a < s.size ∧ byt s a = mk t last ∧ a + 1 + (vB t.wd).toNat ≤ s.size ∧ num s ((a : Int) + 1) (vB t.wd).toNat = t.vl ∧ (wTerm t last).size = 1 + (vB t.wd).toNat := by
  obtain ⟨m0, m1, _⟩ := mk_facts t last k h
  obtain ⟨_, _, v0, v1⟩ := isT_bd k t h
  have vb := vB_bd t.wd
  have mb := mxV_bd t.wd
  unfold wTerm at ha ⊢
  rw [At_app, At_ch s a _ m0 m1, ch_size] at ha
  obtain ⟨⟨h1, h2⟩, h3⟩ := ha
  rw [At_num s (a + 1) t.vl (vB t.wd) (by omega) (by omega) v0 (by omega) (fun h => by have := mb.2 h; omega) (by omega) (by omega)] at h3
  refine ⟨h1, h2, h3.1, ?_, ?_⟩
  · have := h3.2; simpa using this
  · have := wNum_size t.vl (vB t.wd) (by omega) (by omega)
    rw [ByteArray.size_append, ch_size]; omega
theorem rdTerms_complete (s : ByteArray) (k : Int) : ∀ (ts : List Tm) (n : Nat) (f : Bool) (a : Nat), allT k f ts = true → 1 ≤ ts.length → ts.length ≤ n → At s a (wTerms ts) →
    rdTerms s k n f a = some (ts, a + (wTerms ts).size) := by
  intro ts
  induction ts with
  | nil => intro n f a _ h; simp at h
  | cons t r ih =>
    intro n f a hall _ hn hat
    obtain ⟨n, rfl⟩ : ∃ m, n = m + 1 := ⟨n - 1, by simp at hn; omega⟩
    simp only [allT, Bool.and_eq_true, Bool.not_eq_true'] at hall
    obtain ⟨⟨hf, ht⟩, hr⟩ := hall
    simp only [wTerms, At_app] at hat
    obtain ⟨h1, h2, h3, h4, h5⟩ := wTerm_At s a k t _ ht hat.1
    obtain ⟨m0, m1, m2, m3, m4, m5, m6⟩ := mk_facts t r.isEmpty k ht
    rw [← h2] at m2 m3 m4 m5 m6
    have hin : a < s.size ∧ mOK (byt s a) k f = true ∧ a + 1 + (vB (mWide (byt s a))).toNat ≤ s.size := ⟨h1, by rw [m6 f, hf]; rfl, by rw [m4]; exact h3⟩
    cases r with
    | nil =>
      rw [rdTerms_last s k n f a hin (by rw [m2]; rfl), m3, m4, m5, h4]
      have e : (wTerms [t]).size = 1 + (vB t.wd).toNat := by simp only [wTerms, ByteArray.size_append]; rw [h5]; rfl
      rw [e]
      simp; omega
    | cons t2 r2 =>
      rw [rdTerms_more s k n f a hin (by rw [m2]; rfl), m3, m4, m5, h4]
      have e : a + 1 + (vB t.wd).toNat = a + (wTerm t (t2 :: r2).isEmpty).size := by rw [h5]; omega
      rw [e, ih n false _ hr (by simp) (by simpa using hn) hat.2]
      simp [wTerms, ByteArray.size_append]; omega
theorem rdTerms_sound (s : ByteArray) (k : Int) : ∀ (n : Nat) (f : Bool) (a : Nat) (ts : List Tm) (m : Nat), rdTerms s k n f a = some (ts, m) →
    allT k f ts = true ∧ 1 ≤ ts.length ∧ ts.length ≤ n ∧ At s a (wTerms ts) ∧ m = a + (wTerms ts).size := by
  intro n
  induction n with
  | zero => intro f a ts m h; simp [rdTerms] at h
  | succ n ih =>
    intro f a ts m h
    by_cases hs : a < s.size ∧ mOK (byt s a) k f = true ∧ a + 1 + (vB (mWide (byt s a))).toNat ≤ s.size
    · have m0 := byt_nonneg s a
      have m1 := byt_le s a
      have vb := vB_bd (mWide (byt s a))
      obtain ⟨k1, k2, k3, k4, k5⟩ := mk_back (byt s a) k (num s (a + 1) (vB (mWide (byt s a))).toNat) f m0 m1 hs.2.1
      have nb := num_bd s (a + 1) (vB (mWide (byt s a))).toNat (by omega)
      have hT : isT k ⟨mAnd (byt s a), mWide (byt s a), mOp (byt s a) k, num s (a + 1) (vB (mWide (byt s a))).toNat⟩ = true := by
        unfold isT
        simp only [k3, Bool.not_false, Bool.true_and, Bool.and_eq_true, decide_eq_true_eq]
        refine ⟨⟨⟨k4, k5⟩, nb.1⟩, ?_⟩
        cases hw : mWide (byt s a)
        · rw [hw] at nb; exact nb.2.2.1 (by simp [vB])
        · rw [hw] at nb; exact nb.2.1
      have hat : At s a (wTerm ⟨mAnd (byt s a), mWide (byt s a), mOp (byt s a) k, num s (a + 1) (vB (mWide (byt s a))).toNat⟩ (mLast (byt s a))) := by
        unfold wTerm
        rw [At_app, k1, At_ch s a _ m0 m1, ch_size]
        refine ⟨⟨hs.1, rfl⟩, ?_⟩
        dsimp only
        rw [At_num s (a + 1) _ _ (by omega) (by omega) nb.1 nb.2.1 (fun h => nb.2.2.1 (by omega)) (by omega) (by omega)]
        exact ⟨hs.2.2, rfl⟩
      have hsz : (wTerm ⟨mAnd (byt s a), mWide (byt s a), mOp (byt s a) k, num s (a + 1) (vB (mWide (byt s a))).toNat⟩ (mLast (byt s a))).size = 1 + (vB (mWide (byt s a))).toNat := by
        unfold wTerm
        dsimp only
        have := wNum_size (num s (a + 1) (vB (mWide (byt s a))).toNat) (vB (mWide (byt s a))) (by omega) (by omega)
        rw [ByteArray.size_append, ch_size]; omega
      cases hl : mLast (byt s a)
      · rw [rdTerms_more _ _ _ _ _ hs hl] at h
        cases hr : rdTerms s k n false (a + 1 + (vB (mWide (byt s a))).toNat) with
        | none => rw [hr] at h; cases h
        | some r =>
          rw [hr] at h
          obtain ⟨t1, m1⟩ := r
          obtain ⟨i1, i2, i3, i4, i5⟩ := ih _ _ _ _ hr
          simp only [Option.map_some, Option.some.injEq, Prod.mk.injEq] at h
          obtain ⟨rfl, rfl⟩ := h
          have he : t1.isEmpty = false := by cases t1 <;> simp at i2 ⊢
          rw [hl] at hat hsz
          refine ⟨?_, by simp, by simpa using i3, ?_, ?_⟩
          · simp only [allT, k2, hT, i1]; rfl
          · simp only [wTerms, At_app, he]
            refine ⟨hat, ?_⟩
            rw [hsz]
            have e : a + (1 + (vB (mWide (byt s a))).toNat) = a + 1 + (vB (mWide (byt s a))).toNat := by omega
            rw [e]; exact i4
          · simp only [wTerms, ByteArray.size_append, he, hsz]; omega
      · rw [rdTerms_last _ _ _ _ _ hs hl] at h
        simp only [Option.some.injEq, Prod.mk.injEq] at h
        obtain ⟨rfl, rfl⟩ := h
        rw [hl] at hat hsz
        refine ⟨?_, by simp, by simp, ?_, ?_⟩
        · simp only [allT, k2, hT]; rfl
        · simp only [wTerms, At_app]
          exact ⟨hat, At_nil _ _⟩
        · simp only [wTerms, ByteArray.size_append, List.isEmpty_nil, hsz]
          show _ = a + (1 + (vB (mWide (byt s a))).toNat + 0)
          omega
    · rw [rdTerms_stop _ _ _ _ _ hs] at h; cases h
theorem prefOK_bd {b l : Int} (h : prefOK b l = true) : 0 ≤ l ∧ l ≤ 16 ∧ 0 ≤ b ∧ b ≤ 65535 ∧ b % 2 ^ (16 - l).toNat = 0 := by
  unfold prefOK at h
  simp only [Bool.and_eq_true, decide_eq_true_eq] at h
  exact ⟨h.1.1.1.1, h.1.1.1.2, h.1.1.2, h.1.2, h.2⟩
theorem prefOK_low {b l : Int} (h : prefOK b l = true) : (pB l = 1 → b % 256 = 0) ∧ (pB l = 0 → b = 0) := by
  obtain ⟨h0, h1, b0, b1, hm⟩ := prefOK_bd h
  constructor
  · intro hp
    have hl : l ≤ 8 := by unfold pB at hp; split at hp <;> omega
    obtain ⟨j, hj⟩ : ∃ j : Nat, (16 - l).toNat = 8 + j := ⟨(8 - l).toNat, by omega⟩
    rw [hj, Int.pow_add] at hm
    have hd : ((2 : Int) ^ 8 * 2 ^ j) ∣ b := Int.dvd_of_emod_eq_zero hm
    have h256 : (256 : Int) ∣ b := Int.dvd_trans ⟨2 ^ j, by simp⟩ hd
    exact Int.emod_eq_zero_of_dvd h256
  · intro hp
    have hl : l = 0 := by unfold pB at hp; split at hp <;> (try split at hp) <;> omega
    subst hl
    have : b % 65536 = 0 := by simpa using hm
    omega
theorem rdPref_complete (s : ByteArray) (a : Nat) (b l : Int) (h : prefOK b l = true) (hat : At s a (wPref b l)) : rdPref s a = some (b, l, a + (wPref b l).size) := by
  obtain ⟨h0, h1, b0, b1, hm⟩ := prefOK_bd h
  obtain ⟨e1, e2⟩ := prefOK_low h
  have pb := pB_bd l
  have hsz : (wPref b l).size = 1 + (pB l).toNat := by
    unfold wPref
    have := wNum_size (if pB l = 1 then b / 256 else b) (pB l) (by omega) (by omega)
    rw [ByteArray.size_append, ch_size]; omega
  unfold wPref at hat
  rw [At_app, At_ch s a l h0 (by omega), ch_size] at hat
  obtain ⟨⟨h2, h3⟩, h4⟩ := hat
  rw [At_num s (a + 1) _ _ pb.1 pb.2 (by split <;> omega) (by split <;> omega) (fun e => by rw [if_pos e]; omega) (fun e => by rw [if_neg (by omega)]; exact e2 e) (by omega)] at h4
  unfold rdPref
  rw [if_pos h2]
  simp only [h3]
  have hn : num s ((a : Int) + 1) (pB l).toNat = if pB l = 1 then b / 256 else b := by have := h4.2; simpa using this
  rw [if_pos h4.1, hn]
  have hb : (if (pB l).toNat = 1 then (if pB l = 1 then b / 256 else b) * 256 else if pB l = 1 then b / 256 else b) = b := by
    by_cases e : pB l = 1
    · rw [if_pos (by omega), if_pos e]; have := e1 e; omega
    · rw [if_neg (by omega), if_neg e]
  rw [hb, if_pos h, hsz]
  simp; omega
theorem rdPref_sound (s : ByteArray) (a : Nat) (b l : Int) (m : Nat) (h : rdPref s a = some (b, l, m)) : prefOK b l = true ∧ At s a (wPref b l) ∧ m = a + (wPref b l).size := by
  unfold rdPref at h
  split at h
  · rename_i ha
    simp only [] at h
    have pb := pB_bd (byt s a)
    have l0 := byt_nonneg s a
    have l1 := byt_le s a
    split at h
    · rename_i hc
      obtain ⟨n0, n1, n2, n3⟩ := num_bd s (a + 1) (pB (byt s a)).toNat (by omega)
      have key : ∀ B : Int, (B = if (pB (byt s a)).toNat = 1 then num s (a + 1) (pB (byt s a)).toNat * 256 else num s (a + 1) (pB (byt s a)).toNat) → prefOK B (byt s a) = true →
          At s a (wPref B (byt s a)) ∧ a + 1 + (pB (byt s a)).toNat = a + (wPref B (byt s a)).size := by
        intro B hB hok
        have hn : (if pB (byt s a) = 1 then B / 256 else B) = num s (a + 1) (pB (byt s a)).toNat := by
          subst hB
          by_cases e : pB (byt s a) = 1
          · rw [if_pos e, if_pos (by omega)]; omega
          · rw [if_neg e, if_neg (by omega)]
        constructor
        · unfold wPref
          rw [At_app, At_ch s a _ l0 l1, ch_size, hn]
          refine ⟨⟨ha, rfl⟩, ?_⟩
          rw [At_num s (a + 1) _ _ pb.1 pb.2 n0 n1 (fun e => n2 (by omega)) (fun e => n3 (by omega)) (by omega)]
          exact ⟨hc, rfl⟩
        · unfold wPref
          have := wNum_size (if pB (byt s a) = 1 then B / 256 else B) (pB (byt s a)) (by omega) (by omega)
          rw [ByteArray.size_append, ch_size]; omega
      generalize hB : (if (pB (byt s a)).toNat = 1 then num s (a + 1) (pB (byt s a)).toNat * 256 else num s (a + 1) (pB (byt s a)).toNat) = B at h key
      split at h
      · rename_i hok
        simp only [Option.some.injEq, Prod.mk.injEq] at h
        obtain ⟨rfl, rfl, rfl⟩ := h
        exact ⟨hok, (key _ rfl hok).1, (key _ rfl hok).2⟩
      · cases h
    · cases h
  · cases h
theorem rdPart_complete (s : ByteArray) (a : Nat) (p : Pt) (h : isP p = true) (hat : At s a (wPart p)) : rdPart s a = some (p, a + (wPart p).size) := by
  obtain ⟨ty, bt, ln, ts⟩ := p
  have hty := isP_ty h
  dsimp only at hty
  unfold wPart at hat ⊢
  dsimp only at hat ⊢
  cases hk : hasP ty
  · obtain ⟨h1, h2, h3, h4, h5, h6⟩ := isP_terms h hk
    dsimp only at h1 h2 h3 h4 h5 h6
    subst h2 h3
    simp only [hk, Bool.false_eq_true, if_false, At_app, ch_size] at hat ⊢
    rw [At_ch s a ty (by omega) (by omega)] at hat
    obtain ⟨⟨q1, q2⟩, q3⟩ := hat
    rw [rdPart_terms s a q1 (by rw [q2]; exact hk) (by rw [q2]; exact h1), q2, rdTerms_complete s ty ts 8 true (a + 1) h6 h4 h5 q3]
    simp [ByteArray.size_append, ch_size]; omega
  · obtain ⟨h1, h2⟩ := isP_pref h hk
    dsimp only at h1 h2
    subst h1
    simp only [hk, if_true, At_app, ch_size] at hat ⊢
    rw [At_ch s a ty (by omega) (by omega)] at hat
    obtain ⟨⟨q1, q2⟩, q3⟩ := hat
    rw [rdPart_pref s a q1 (by rw [q2]; exact hk), q2, rdPref_complete s (a + 1) bt ln h2 q3]
    simp [ByteArray.size_append, ch_size]; omega
theorem rdPart_sound (s : ByteArray) (a : Nat) (p : Pt) (m : Nat) (h : rdPart s a = some (p, m)) : isP p = true ∧ At s a (wPart p) ∧ m = a + (wPart p).size := by
  by_cases ha : a < s.size
  · have l0 := byt_nonneg s a
    have l1 := byt_le s a
    cases hp : hasP (byt s a)
    · cases ht : hasT (byt s a)
      · rw [rdPart_none s a hp ht] at h; cases h
      · rw [rdPart_terms s a ha hp ht] at h
        cases hr : rdTerms s (byt s a) 8 true (a + 1) with
        | none => rw [hr] at h; cases h
        | some r =>
          rw [hr] at h
          obtain ⟨ts, m'⟩ := r
          obtain ⟨i1, i2, i3, i4, i5⟩ := rdTerms_sound s _ _ _ _ _ _ hr
          simp only [Option.map_some, Option.some.injEq, Prod.mk.injEq] at h
          obtain ⟨rfl, rfl⟩ := h
          refine ⟨?_, ?_, ?_⟩
          · unfold isP areT; simp [hp, ht, i1]; omega
          · unfold wPart; dsimp only; rw [if_neg (by simp [hp]), At_app, At_ch s a _ l0 l1, ch_size]; exact ⟨⟨ha, rfl⟩, i4⟩
          · unfold wPart; dsimp only; rw [if_neg (by simp [hp]), ByteArray.size_append, ch_size]; omega
    · rw [rdPart_pref s a ha hp] at h
      cases hr : rdPref s (a + 1) with
      | none => rw [hr] at h; cases h
      | some r =>
        rw [hr] at h
        obtain ⟨b, l, m'⟩ := r
        obtain ⟨i1, i2, i3⟩ := rdPref_sound s _ _ _ _ hr
        simp only [Option.map_some, Option.some.injEq, Prod.mk.injEq] at h
        obtain ⟨rfl, rfl⟩ := h
        refine ⟨?_, ?_, ?_⟩
        · unfold isP; simp [hp, i1]
        · unfold wPart; dsimp only; rw [if_pos hp, At_app, At_ch s a _ l0 l1, ch_size]; exact ⟨⟨ha, rfl⟩, i2⟩
        · unfold wPart; dsimp only; rw [if_pos hp, ByteArray.size_append, ch_size]; omega
  · rw [rdPart_end s a ha] at h; cases h
theorem rdParts_complete (s : ByteArray) : ∀ (ps : List Pt) (n : Nat) (b : Int) (a : Nat), allP b ps = true → ps.length < n → At s a (wParts ps) → a + (wParts ps).size = s.size → rdParts s n b a = some ps := by
  intro ps
  induction ps with
  | nil =>
    intro n b a _ hn _ hs
    obtain ⟨n, rfl⟩ : ∃ m, n = m + 1 := ⟨n - 1, by simp at hn; omega⟩
    exact rdParts_end s n b a (by have : (wParts []).size = 0 := rfl; omega)
  | cons p r ih =>
    intro n b a hall hn hat hs
    obtain ⟨n, rfl⟩ : ∃ m, n = m + 1 := ⟨n - 1, by simp at hn; omega⟩
    simp only [allP, Bool.and_eq_true, decide_eq_true_eq] at hall
    simp only [wParts, At_app] at hat
    have hr := rdPart_complete s a p hall.1.2 hat.1
    have hb := rdPart_bd s a p _ hr
    simp only [wParts, ByteArray.size_append] at hs
    rw [rdParts_go s n b a p _ (by omega) hr (by omega), ih n p.ty _ hall.2 (by simpa using hn) hat.2 (by omega)]
    rfl
theorem rdParts_sound (s : ByteArray) : ∀ (n : Nat) (b : Int) (a : Nat) (ps : List Pt), rdParts s n b a = some ps → a ≤ s.size → allP b ps = true ∧ At s a (wParts ps) ∧ a + (wParts ps).size = s.size := by
  intro n
  induction n with
  | zero => intro b a ps h; cases h
  | succ n ih =>
    intro b a ps h hle
    by_cases ha : a < s.size
    · cases hr : rdPart s a with
      | none => rw [rdParts_no s _ b a ha hr] at h; cases h
      | some r =>
        obtain ⟨p, m⟩ := r
        by_cases hl : p.ty ≤ b
        · rw [rdParts_low s _ b a p m ha hr hl] at h; cases h
        · rw [rdParts_go s n b a p m ha hr hl] at h
          cases hq : rdParts s n p.ty m with
          | none => rw [hq] at h; cases h
          | some q =>
            rw [hq] at h
            simp only [Option.map_some, Option.some.injEq] at h
            subst h
            obtain ⟨i1, i2, i3⟩ := rdPart_sound s a p m hr
            have hb := rdPart_bd s a p m hr
            obtain ⟨j1, j2, j3⟩ := ih _ _ _ hq (by omega)
            subst i3
            refine ⟨?_, ?_, ?_⟩
            · simp [allP, i1, j1]; omega
            · simp only [wParts, At_app]; exact ⟨i2, j2⟩
            · simp only [wParts, ByteArray.size_append]; omega
    · rw [rdParts_end s n b a ha] at h
      simp only [Option.some.injEq] at h
      subst h
      exact ⟨rfl, At_nil _ _, by show a + 0 = _; omega⟩
theorem At_self (s : ByteArray) : At s 0 s := by unfold At; simp
theorem At_eq {s x : ByteArray} (h : At s 0 x) (hs : x.size = s.size) : x = s := by
  unfold At at h
  simp only [List.drop_zero] at h
  exact bl_inj (h.eq_of_length (by rw [bl_len, bl_len, hs]))
theorem wPart_pos (p : Pt) : 0 < (wPart p).size := by
  unfold wPart; split <;> rw [ByteArray.size_append, ch_size] <;> omega
theorem decS_complete (ps : List Pt) (h : isR ps = true) : decS (wParts ps) = some ps := by
  unfold isR at h
  simp only [Bool.and_eq_true, decide_eq_true_eq] at h
  have hl := allP_len ps 0 (by omega) (by omega) h.1
  unfold decS
  have hpos : 0 < (wParts ps).size := by
    cases ps with
    | nil => simp at h
    | cons p r => have := wPart_pos p; simp only [wParts, ByteArray.size_append]; omega
  rw [if_neg (by omega)]
  exact rdParts_complete _ ps 7 0 0 h.1 (by omega) (At_self _) (by omega)
theorem decS_sound (s : ByteArray) (ps : List Pt) (h : decS s = some ps) : isR ps = true ∧ wParts ps = s := by
  unfold decS at h
  split at h
  · cases h
  · rename_i hne
    obtain ⟨h1, h2, h3⟩ := rdParts_sound s _ _ _ _ h (by omega)
    have he := At_eq h2 (by omega)
    refine ⟨?_, he⟩
    unfold isR
    cases ps with
    | nil => exact absurd (show s.size = 0 by rw [← he]; rfl) hne
    | cons p r => simp [h1]
theorem decS_none (s : ByteArray) (h : ∀ ps, isR ps = true → wParts ps ≠ s) : decS s = none := by
  cases hd : decS s with
  | none => rfl
  | some ps => obtain ⟨h1, h2⟩ := decS_sound s ps hd; exact absurd h2 (h ps h1)
end Go.Proofs.YtgkiknfpcbcnnaaGreat
namespace Go.Proofs.YtgkiknfpcbcnnaaGreat
open Go.RowKit
set_option maxRecDepth 20000
def pk (c n : Int) : Int := (if c < 0 then -(c + 1) else c) % n
theorem pk_bd (c n : Int) (h : 0 < n) : 0 ≤ pk c n ∧ pk c n < n := by
  unfold pk; exact ⟨Int.emod_nonneg _ (by omega), Int.emod_lt_of_pos _ h⟩
end Go.Proofs.YtgkiknfpcbcnnaaGreat
namespace Go.Proofs.YtgkiknfpcbcnnaaGreat
open Go.RowKit
set_option maxRecDepth 20000
theorem infoByte : (Tryz.prog.info? 5).map (fun i => (i.zero, i.size, i.bytes)) = some (some (.int .u8 0), 1, 1) := by kernel_rfl
def bv (X : ByteArray) : List Value := (bl X).map fun b => .int .u8 (b.toNat : Int)
theorem bv_len (X : ByteArray) : (bv X).length = X.size := by unfold bv; rw [List.length_map, bl_len]
theorem bv_app (X Y : ByteArray) : bv (X ++ Y) = bv X ++ bv Y := by unfold bv; rw [bl_app, List.map_append]
theorem bv_ch (n : Int) (h0 : 0 ≤ n) (h1 : n ≤ 255) : bv (ch n) = [.int .u8 n] := by
  have e : ((UInt8.ofNat n.toNat).toNat : Int) = n := by rw [UInt8.toNat_ofNat_of_lt' (by show n.toNat < 256; omega)]; omega
  show [Value.int .u8 ((UInt8.ofNat n.toNat).toNat : Int)] = _
  rw [e]
theorem cell_one_new (w : World) (k : Nat) (a : Value) (t : TypeId) (hk : w.heap.size = k) : ∀ j u, [a][j]? = some u → (w.alloc (.cells #[a] t)).cell? ((⟨k, 0, none⟩ : Addr).add j) = some u := by
  subst hk
  intro j u hj
  match j, hj with
  | 0, hj => simp at hj; subst hj; simp [Addr.add]
  | n + 1, hj => simp at hj
theorem int_one (k : IntKind) (n : Int) : ∀ u ∈ [Value.int k n], u.oneCell' = true := by simp [Value.oneCell']
theorem conv_own {w : World} {B : Nat} {v : Value} {X : ByteArray} (h : w.ownsRow B 5 1 v X.size (bv X)) (hp : 0 < X.size) :
    (convert 146 9 v).run Tryz.prog w = .ok (.string X) w := by
  rcases h.2 with ⟨_, h0⟩ | ⟨g, cap, cur, rfl, hb, hg, hn, hm, hs, ht⟩
  · omega
  · have e : (⟨(bl X).toArray⟩ : ByteArray) = X := by apply ByteArray.ext; simp [bl]
    have hc := run_convert_bytes_back (P := Tryz.prog) w 146 9 5 ⟨g, 0, none⟩ cap (bl X) Tryz.underlying146 Tryz.underlying5 Tryz.underlying9 (by
      intro j hj
      exact h.cells (g := g) rfl j _ (by unfold bv; rw [List.getElem?_map, List.getElem?_eq_getElem hj]; rfl))
    rw [bl_len, e] at hc
    exact hc
theorem owns_one (w : World) (B : Nat) (a : Int) (ha : 0 ≤ a) (ha1 : a ≤ 255) (hB : B ≤ w.heap.size) :
    (w.alloc (.cells #[.int .u8 a] 5)).ownsRow B 5 1 (.slice (some ⟨w.heap.size, 0, none⟩) 1 1) (ch a).size (bv (ch a)) := by
  rw [bv_ch a ha ha1]
  exact World.ownsRow_lit w #[.int .u8 a] 1 hB (by unfold maxLen; omega) rfl
theorem below_byte {W0 w w1 : World} {B : Nat} {o : Obj} {v : Value} {n : Nat} {xs : List Value} (hb : Below B W0 w) (hB : B ≤ w.heap.size) (hown : w.ownsRow B 5 1 v n xs) (hg : (w.alloc o).grownBy w1 v.ownBlock) : Below B W0 w1 :=
  ((hb.alloc hB o).grown hg (by simp; omega) (fun k hk => (hown.lt k hk).1))
theorem wPref_zero (b l : Int) (h : ¬ 0 < l) : wPref b l = ch l := by
  have hp : pB l = 0 := by unfold pB; rw [if_neg (by omega), if_neg h]
  unfold wPref; rw [hp]; simp [wNum, app_nil]
theorem wPref_one (b l : Int) (h : 0 < l) (h2 : ¬ 8 < l) : wPref b l = ch l ++ ch (b / 256) := by
  have hp : pB l = 1 := by unfold pB; rw [if_neg h2, if_pos h]
  unfold wPref; rw [hp]; simp [wNum]
theorem wPref_two (b l : Int) (h2 : 8 < l) : wPref b l = ch l ++ (ch (b / 256) ++ ch (b % 256)) := by
  have hp : pB l = 2 := by unfold pB; rw [if_pos h2]
  unfold wPref; rw [hp]; simp [wNum]
end Go.Proofs.YtgkiknfpcbcnnaaGreat
