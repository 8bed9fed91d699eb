import Derived.Test.YtkdcjcemeipkjaaEnc6
namespace Go.Proofs.Ytkdcjcemeipkjaa
open Go.RowKit
set_option maxRecDepth 20000

def bl (s : ByteArray) : List UInt8 := s.data.toList
theorem bl_len (s : ByteArray) : (bl s).length = s.size := by show s.data.toList.length = s.data.size; exact Array.length_toList
theorem bl_app (x y : ByteArray) : bl (x ++ y) = bl x ++ bl y := by simp [bl, ByteArray.data_append]
theorem bl_inj {x y : ByteArray} (h : bl x = bl y) : x = y := by
  apply ByteArray.ext
  exact Array.toList_inj.1 h
theorem bl_ch (n : Int) : bl (ch n) = [UInt8.ofNat n.toNat] := rfl

/-- x stands in s at a place. -/
def At (s : ByteArray) (a : Nat) (x : ByteArray) : Prop := bl x <+: (bl s).drop a

theorem At_nil (s : ByteArray) (a : Nat) : At s a ⟨#[]⟩ := List.nil_prefix
theorem At_app (s : ByteArray) (a : Nat) (x y : ByteArray) : At s a (x ++ y) ↔ At s a x ∧ At s (a + x.size) y := by
  unfold At
  rw [bl_app, ← bl_len x, ← List.drop_drop]
  constructor
  · rintro ⟨r, hr⟩
    rw [← hr]
    exact ⟨⟨bl y ++ r, by simp⟩, ⟨r, by simp⟩⟩
  · rintro ⟨⟨r, hr⟩, h⟩
    rw [← hr] at h ⊢
    rw [List.drop_left] at h
    obtain ⟨q, hq⟩ := h
    exact ⟨q, by rw [← hq]; simp⟩

theorem byt_get (s : ByteArray) (a : Nat) (h : a < s.size) : byt s a = ((bl s)[a]'(by rw [bl_len]; exact h)).toNat := by
  unfold byt
  rw [dif_pos (by simpa using h)]
  rfl

theorem At_ch (s : ByteArray) (a : Nat) (n : Int) (h0 : 0 ≤ n) (h1 : n ≤ 255) : At s a (ch n) ↔ a < s.size ∧ byt s a = n := by
  unfold At
  rw [bl_ch]
  constructor
  · rintro ⟨r, hr⟩
    have hl := congrArg List.length hr
    simp [bl_len] at hl
    have ha : a < s.size := by omega
    refine ⟨ha, ?_⟩
    rw [byt_get s a ha]
    have hd := List.drop_eq_getElem_cons (l := bl s) (i := a) (by rw [bl_len]; exact ha)
    rw [hd] at hr
    have e := (List.cons.inj hr).1
    rw [← e]
    rw [UInt8.toNat_ofNat_of_lt' (by show n.toNat < 256; omega)]; omega
  · rintro ⟨ha, hb⟩
    rw [byt_get s a ha] at hb
    have hd := List.drop_eq_getElem_cons (l := bl s) (i := a) (by rw [bl_len]; exact ha)
    rw [hd]
    refine ⟨(bl s).drop (a + 1), ?_⟩
    have e : UInt8.ofNat n.toNat = (bl s)[a]'(by rw [bl_len]; exact ha) := by
      rw [← hb]
      simp
    rw [e]; rfl

theorem At_num (s : ByteArray) (a : Nat) (n c : Int) (c0 : 0 ≤ c) (c2 : c ≤ 2) (h0 : 0 ≤ n) (h1 : n ≤ 65535) (h2 : c = 1 → n ≤ 255) (h3 : c = 0 → n = 0) (ha : a ≤ s.size) :
    At s a (wNum n c) ↔ a + c.toNat ≤ s.size ∧ num s a c.toNat = n := by
  unfold wNum
  by_cases e0 : c = 0
  · subst e0
    rw [if_pos rfl]
    have := h3 rfl
    subst this
    exact ⟨fun _ => ⟨by simpa using ha, rfl⟩, fun _ => At_nil _ _⟩
  rw [if_neg e0]
  by_cases e1 : c = 1
  · subst e1
    rw [if_pos rfl, At_ch s a n h0 (h2 rfl)]
    have e : num s a (1 : Int).toNat = byt s a := by show num s a 0 * 256 + byt s (a + (0 : Nat)) = _; simp [num]
    rw [e]
    simp
    omega
  · obtain rfl : c = 2 := by omega
    rw [if_neg e1, At_app, At_ch s a (n / 256) (by omega) (by omega), At_ch s _ (n % 256) (by omega) (by omega)]
    have e : num s a (2 : Int).toNat = byt s a * 256 + byt s (a + 1 : Nat) := by
      show (num s a 0 * 256 + byt s (a + (0 : Nat))) * 256 + byt s (a + (1 : Nat)) = _
      simp [num]
    rw [e, ch_size]
    have b0 := byt_nonneg s (a + 1 : Nat)
    have b1 := byt_le s (a + 1 : Nat)
    simp only [Int.reduceToNat]
    constructor
    · rintro ⟨⟨x1, x2⟩, x3, x4⟩
      exact ⟨by omega, by rw [x2, x4]; omega⟩
    · rintro ⟨x1, x2⟩
      refine ⟨⟨by omega, ?_⟩, by omega, ?_⟩ <;> omega

theorem mk_facts (t : Tm) (last : Bool) (k : Int) (h : isT k t = true) :
    0 ≤ mk t last ∧ mk t last ≤ 255 ∧ mLast (mk t last) = last ∧ mAnd (mk t last) = t.an ∧ mWide (mk t last) = t.wd ∧ mOp (mk t last) k = t.op ∧ ∀ f, mOK (mk t last) k f = !(t.an && f) := by
  obtain ⟨an, wd, op, vl⟩ := t
  unfold isT at h
  simp only [Bool.and_eq_true, decide_eq_true_eq, Bool.not_eq_true', Bool.and_eq_false_iff] at h
  obtain ⟨⟨⟨⟨hw, h0⟩, h1⟩, _⟩, _⟩ := h
  simp only [mk, mLast, mAnd, mWide, mOp, mOK]
  by_cases hk : k = 5
  · subst hk
    have hwd : wd = false := by rcases hw with h | h <;> simp_all
    subst hwd
    have h1' : op ≤ 3 := h1
    clear h1 hw
    cases an <;> cases last <;> simp only [b2, if_true, Bool.false_eq_true, if_false] <;>
      refine ⟨by omega, by omega, by simp; omega, by simp; omega, by simp; omega, by omega, ?_⟩ <;> intro f <;> cases f <;> simp <;> omega
  · have h1' : op ≤ 7 := by simpa [opM, hk] using h1
    clear h1 hw
    cases an <;> cases wd <;> cases last <;> simp only [b2, if_true, Bool.false_eq_true, if_false, hk] <;>
      refine ⟨by omega, by omega, by simp; omega, by simp; omega, by simp; omega, by omega, ?_⟩ <;> intro f <;> cases f <;> simp <;> omega

theorem mk_back (m k v : Int) (f : Bool) (h0 : 0 ≤ m) (h1 : m ≤ 255) (h : mOK m k f = true) :
    mk ⟨mAnd m, mWide m, mOp m k, v⟩ (mLast m) = m ∧ (mAnd m && f) = false ∧ (mWide m && decide (k = 5)) = false ∧ 0 ≤ mOp m k ∧ mOp m k ≤ opM k := by
  unfold mOK at h
  simp only [Bool.and_eq_true, Bool.or_eq_true, Bool.not_eq_true', decide_eq_true_eq] at h
  obtain ⟨hm, hf⟩ := h
  by_cases hk : k = 5
  · subst hk
    simp only [if_true, decide_eq_true_eq] at hm
    have hw : mWide m = false := by unfold mWide; simp; omega
    refine ⟨?_, ?_, by simp [hw], by unfold mOp; simp; omega, by unfold mOp opM; simp; omega⟩
    · simp only [mk, hw, mAnd, mLast, mOp, b2, if_true, Bool.false_eq_true, if_false, decide_eq_true_eq]
      split <;> split <;> omega
    · rcases hf with rfl | hf
      · simp
      · unfold mAnd; simp; omega
  · simp only [if_neg hk, Bool.and_eq_true, decide_eq_true_eq] at hm
    refine ⟨?_, ?_, by simp [hk], by unfold mOp; simp only [if_neg hk]; omega, by unfold mOp opM; simp only [if_neg hk]; omega⟩
    · simp only [mk, mWide, mAnd, mLast, mOp, b2, if_neg hk, decide_eq_true_eq]
      split <;> split <;> split <;> omega
    · rcases hf with rfl | hf
      · simp
      · unfold mAnd; simp; omega
end Go.Proofs.Ytkdcjcemeipkjaa
