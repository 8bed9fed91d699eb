import Derived.Test.YtkdcjcemeipkjaaCmp1
namespace Go.Proofs.Ytkdcjcemeipkjaa
open Go.RowKit
set_option maxRecDepth 20000

theorem binL_digit (v : Nat) : ∀ n, ∀ d ∈ binL v n, d = 48 ∨ d = 49 := by
  intro n
  induction n with
  | zero => intro d hd; simp [binL] at hd
  | succ n ih =>
    intro d hd
    simp only [binL, List.mem_cons] at hd
    rcases hd with rfl | hd
    · unfold dgL; split
      · exact .inr rfl
      · exact .inl rfl
    · exact ih d hd

theorem shr_shr (b l m : Nat) (h1 : m ≤ l) (h2 : l ≤ 16) : b / 2 ^ (16 - l) / 2 ^ (l - m) = b / 2 ^ (16 - m) := by
  rw [Nat.div_div_eq_div_mul, ← Nat.pow_add]
  congr 2
  omega

theorem key_split (b l m : Nat) (h1 : m ≤ l) (h2 : l ≤ 16) : binL (b / 2 ^ (16 - l)) l = binL (b / 2 ^ (16 - m)) m ++ (binL (b / 2 ^ (16 - l)) l).drop m := by
  have e := binL_take (b / 2 ^ (16 - l)) l m h1
  rw [shr_shr b l m h1 h2] at e
  rw [← e, List.take_append_drop]

/-- The key of a prefix. -/
def prefKey (b l : Nat) : List UInt8 := binL (b / 2 ^ (16 - l)) l ++ [50]

theorem key_longer (b1 l1 b2 l2 : Nat) (h : l1 < l2) (h2 : l2 ≤ 16) (he : b2 / 2 ^ (16 - l1) = b1 / 2 ^ (16 - l1)) : Dif (prefKey b1 l1) (prefKey b2 l2) 1 ∧ Dif (prefKey b2 l2) (prefKey b1 l1) (-1) := by
  unfold prefKey
  have e := key_split b2 l2 l1 (by omega) h2
  rw [he] at e
  have hlen : ((binL (b2 / 2 ^ (16 - l2)) l2).drop l1).length = l2 - l1 := by rw [List.length_drop, binL_len]
  cases hd : (binL (b2 / 2 ^ (16 - l2)) l2).drop l1 with
  | nil => rw [hd] at hlen; simp at hlen; omega
  | cons d r =>
    rw [hd] at e
    have hm : d ∈ binL (b2 / 2 ^ (16 - l2)) l2 := by rw [e]; simp
    rw [e]
    generalize binL (b1 / 2 ^ (16 - l1)) l1 = z
    have hdd := binL_digit _ _ d hm
    constructor
    · exact ⟨z, 50, d, [], r ++ [50], rfl, by simp, by rcases hdd with rfl | rfl <;> decide, by rcases hdd with rfl | rfl <;> rfl⟩
    · exact ⟨z, d, 50, r ++ [50], [], by simp, rfl, by rcases hdd with rfl | rfl <;> decide, by rcases hdd with rfl | rfl <;> rfl⟩

theorem key_lower (b1 l1 b2 l2 m : Nat) (m1 : m ≤ l1) (m2 : m ≤ l2) (h1 : l1 ≤ 16) (h2 : l2 ≤ 16) (v2 : b2 ≤ 65535) (h : b1 / 2 ^ (16 - m) < b2 / 2 ^ (16 - m)) : Dif (prefKey b1 l1) (prefKey b2 l2) (-1) ∧ Dif (prefKey b2 l2) (prefKey b1 l1) 1 ∧ b1 < b2 := by
  obtain ⟨z, u, v, e1, e2⟩ := binL_lt m _ _ h (shr_lt b2 m (by omega) v2)
  have k1 := key_split b1 l1 m m1 h1
  have k2 := key_split b2 l2 m m2 h2
  rw [e1] at k1
  rw [e2] at k2
  refine ⟨?_, ?_, ?_⟩
  · unfold prefKey
    rw [k1, k2]
    exact ⟨z, 48, 49, u ++ (binL (b1 / 2 ^ (16 - l1)) l1).drop m ++ [50], v ++ (binL (b2 / 2 ^ (16 - l2)) l2).drop m ++ [50], by simp, by simp, by decide, rfl⟩
  · unfold prefKey
    rw [k1, k2]
    exact ⟨z, 49, 48, v ++ (binL (b2 / 2 ^ (16 - l2)) l2).drop m ++ [50], u ++ (binL (b1 / 2 ^ (16 - l1)) l1).drop m ++ [50], by simp, by simp, by decide, rfl⟩
  · rcases Nat.lt_or_ge b1 b2 with h' | h'
    · exact h'
    · have := Nat.div_le_div_right (c := 2 ^ (16 - m)) h'
      omega

theorem lies_nat (v b l : Nat) (h : l ≤ 16) : lies v b l = decide (v / 2 ^ (16 - l) = b / 2 ^ (16 - l)) := by
  unfold lies
  have ek : ((16 : Int) - (l : Int)).toNat = 16 - l := by omega
  rw [ek]
  have e0 : (2 : Int) ^ (16 - l) = ((2 ^ (16 - l) : Nat) : Int) := by simp
  rw [e0, ← Int.natCast_ediv, ← Int.natCast_ediv]
  have e1 : (((v / 2 ^ (16 - l) : Nat) : Int) = ((b / 2 ^ (16 - l) : Nat) : Int)) = (v / 2 ^ (16 - l) = b / 2 ^ (16 - l)) := propext Int.ofNat_inj
  simp only [e1]

theorem cov_nat (b1 l1 b2 l2 : Nat) (h : l1 ≤ 16) : cov b1 l1 b2 l2 = (decide (l1 ≤ l2) && decide (b2 / 2 ^ (16 - l1) = b1 / 2 ^ (16 - l1))) := by
  unfold cov
  rw [lies_nat b2 b1 l1 h]
  congr 1
  exact decide_eq_decide.2 (by omega)

theorem same_bits (b1 b2 l : Nat) (he : b2 / 2 ^ (16 - l) = b1 / 2 ^ (16 - l)) (z1 : b1 % 2 ^ (16 - l) = 0) (z2 : b2 % 2 ^ (16 - l) = 0) : b1 = b2 := by
  have d1 := Nat.div_add_mod b1 (2 ^ (16 - l))
  have d2 := Nat.div_add_mod b2 (2 ^ (16 - l))
  rw [he, z2] at d2
  rw [z1] at d1
  omega

theorem pref_cmp (b1 l1 b2 l2 : Nat) (h1 : l1 ≤ 16) (h2 : l2 ≤ 16) (v1 : b1 ≤ 65535) (v2 : b2 ≤ 65535) (z1 : b1 % 2 ^ (16 - l1) = 0) (z2 : b2 % 2 ^ (16 - l2) = 0) :
    (cmpPref b1 l1 b2 l2 = 0 ∧ b1 = b2 ∧ l1 = l2) ∨ Dif (prefKey b1 l1) (prefKey b2 l2) (cmpPref b1 l1 b2 l2) := by
  unfold cmpPref
  rw [cov_nat b1 l1 b2 l2 h1, cov_nat b2 l2 b1 l1 h2]
  by_cases c12 : l1 ≤ l2 ∧ b2 / 2 ^ (16 - l1) = b1 / 2 ^ (16 - l1)
  · rw [if_pos (by simp [c12.1, c12.2])]
    by_cases hl : l1 = l2
    · subst hl
      exact .inl ⟨lowF_self _, same_bits b1 b2 l1 c12.2 z1 z2, rfl⟩
    · have e : lowF (l2 : Int) (l1 : Int) = 1 := by unfold lowF; rw [if_neg (by omega), if_pos (by omega)]
      rw [e]
      exact .inr (key_longer b1 l1 b2 l2 (by omega) h2 c12.2).1
  · by_cases c21 : l2 ≤ l1 ∧ b1 / 2 ^ (16 - l2) = b2 / 2 ^ (16 - l2)
    · rw [if_pos (by simp [c21.1, c21.2])]
      by_cases hl : l1 = l2
      · subst hl
        exact absurd ⟨Nat.le_refl _, c21.2.symm⟩ c12
      · have e : lowF (l2 : Int) (l1 : Int) = -1 := by unfold lowF; rw [if_pos (by omega)]
        rw [e]
        exact .inr (key_longer b2 l2 b1 l1 (by omega) h1 c21.2).2
    · have hn : (decide (l1 ≤ l2) && decide (b2 / 2 ^ (16 - l1) = b1 / 2 ^ (16 - l1)) || decide (l2 ≤ l1) && decide (b1 / 2 ^ (16 - l2) = b2 / 2 ^ (16 - l2))) = false := by
        have n1 : (decide (l1 ≤ l2) && decide (b2 / 2 ^ (16 - l1) = b1 / 2 ^ (16 - l1))) = false := by
          cases hx : (decide (l1 ≤ l2) && decide (b2 / 2 ^ (16 - l1) = b1 / 2 ^ (16 - l1)))
          · rfl
          · simp only [Bool.and_eq_true, decide_eq_true_eq] at hx; exact absurd hx c12
        have n2 : (decide (l2 ≤ l1) && decide (b1 / 2 ^ (16 - l2) = b2 / 2 ^ (16 - l2))) = false := by
          cases hx : (decide (l2 ≤ l1) && decide (b1 / 2 ^ (16 - l2) = b2 / 2 ^ (16 - l2)))
          · rfl
          · simp only [Bool.and_eq_true, decide_eq_true_eq] at hx; exact absurd hx c21
        rw [n1, n2]; rfl
      rw [hn]
      simp only [Bool.false_eq_true, if_false]
      right
      have key : ∃ m, m ≤ l1 ∧ m ≤ l2 ∧ b1 / 2 ^ (16 - m) ≠ b2 / 2 ^ (16 - m) := by
        rcases Nat.le_total l1 l2 with h | h
        · exact ⟨l1, Nat.le_refl _, h, fun hh => c12 ⟨h, hh.symm⟩⟩
        · exact ⟨l2, h, Nat.le_refl _, fun hh => c21 ⟨h, hh⟩⟩
      obtain ⟨m, m1, m2, hne⟩ := key
      rcases Nat.lt_or_gt_of_ne hne with hlt | hlt
      · obtain ⟨k1, _, k3⟩ := key_lower b1 l1 b2 l2 m m1 m2 h1 h2 v2 hlt
        have e : lowF (b1 : Int) (b2 : Int) = -1 := by unfold lowF; rw [if_pos (by omega)]
        rw [e]; exact k1
      · obtain ⟨_, k2, k3⟩ := key_lower b2 l2 b1 l1 m m2 m1 h2 h1 v1 hlt
        have e : lowF (b1 : Int) (b2 : Int) = 1 := by unfold lowF; rw [if_neg (by omega), if_pos (by omega)]
        rw [e]; exact k2

/-- The key of a part, of a rule. -/
def keyL (p : Pt) : List UInt8 := if hasP p.ty then UInt8.ofNat p.ty.toNat :: prefKey p.bt.toNat p.ln.toNat else bl (wPart p)
def keyR (ps : List Pt) : List UInt8 := ps.flatMap keyL ++ [255]

theorem keyL_head (p : Pt) : ∃ r, keyL p = UInt8.ofNat p.ty.toNat :: r := by
  unfold keyL
  split
  · exact ⟨_, rfl⟩
  · rename_i h
    refine ⟨bl (wTerms p.ts), ?_⟩
    unfold wPart
    rw [if_neg h, bl_app, bl_ch]
    rfl

theorem ty_byte {k : Int} (h0 : 1 ≤ k) (h1 : k ≤ 5) : ((UInt8.ofNat k.toNat).toNat : Int) = k := by
  rw [UInt8.toNat_ofNat']
  omega

theorem Pt.ext4 {p q : Pt} (h1 : p.ty = q.ty) (h2 : p.bt = q.bt) (h3 : p.ln = q.ln) (h4 : p.ts = q.ts) : p = q := by
  cases p; cases q; simp only at h1 h2 h3 h4; subst h1 h2 h3 h4; rfl

theorem part_cmp {p q : Pt} (hp : isP p = true) (hq : isP q = true) : (cmpP p q = 0 ∧ p = q) ∨ Dif (keyL p) (keyL q) (cmpP p q) := by
  unfold cmpP
  by_cases ht : p.ty = q.ty
  · rw [if_pos ht]
    cases hk : hasP p.ty
    · simp only [Bool.false_eq_true, if_false]
      have hk2 : hasP q.ty = false := by rw [← ht]; exact hk
      have e1 : keyL p = bl (wPart p) := by unfold keyL; rw [hk]; rfl
      have e2 : keyL q = bl (wPart q) := by unfold keyL; rw [hk2]; rfl
      rw [e1, e2]
      rcases cmpB_dif (bl (wPart p)) (bl (wPart q)) with h | ⟨h1, h2⟩
      · exact .inr h
      · refine .inl ⟨h1, ?_⟩
        rcases h2 with h2 | h2
        · exact part_inj hp hq h2
        · exact (part_inj hq hp h2).symm
    · simp only [if_true]
      have hk2 : hasP q.ty = true := by rw [← ht]; exact hk
      have e1 : keyL p = UInt8.ofNat p.ty.toNat :: prefKey p.bt.toNat p.ln.toNat := by unfold keyL; rw [hk]; rfl
      have e2 : keyL q = UInt8.ofNat q.ty.toNat :: prefKey q.bt.toNat q.ln.toNat := by unfold keyL; rw [hk2]; rfl
      obtain ⟨t1, o1⟩ := isP_pref hp hk
      obtain ⟨t2, o2⟩ := isP_pref hq hk2
      obtain ⟨a1, a2, a3, a4, a5⟩ := prefOK_bd o1
      obtain ⟨b1, b2, b3, b4, b5⟩ := prefOK_bd o2
      rw [e1, e2, ht]
      obtain ⟨x1, hx1⟩ := Int.eq_ofNat_of_zero_le a3
      obtain ⟨y1, hy1⟩ := Int.eq_ofNat_of_zero_le a1
      obtain ⟨x2, hx2⟩ := Int.eq_ofNat_of_zero_le b3
      obtain ⟨y2, hy2⟩ := Int.eq_ofNat_of_zero_le b1
      rw [hx1] at a3 a4 a5 ⊢
      rw [hy1] at a1 a2 a5 ⊢
      rw [hx2] at b3 b4 b5 ⊢
      rw [hy2] at b1 b2 b5 ⊢
      simp only [Int.toNat_natCast]
      have z1 : x1 % 2 ^ (16 - y1) = 0 := by
        have ek : ((16 : Int) - (y1 : Int)).toNat = 16 - y1 := by omega
        rw [ek] at a5
        have e0 : (2 : Int) ^ (16 - y1) = ((2 ^ (16 - y1) : Nat) : Int) := by simp
        rw [e0] at a5
        omega
      have z2 : x2 % 2 ^ (16 - y2) = 0 := by
        have ek : ((16 : Int) - (y2 : Int)).toNat = 16 - y2 := by omega
        rw [ek] at b5
        have e0 : (2 : Int) ^ (16 - y2) = ((2 ^ (16 - y2) : Nat) : Int) := by simp
        rw [e0] at b5
        omega
      rcases pref_cmp x1 y1 x2 y2 (by omega) (by omega) (by omega) (by omega) z1 z2 with ⟨h1, h2, h3⟩ | h
      · exact .inl ⟨h1, Pt.ext4 ht (by rw [hx1, hx2, h2]) (by rw [hy1, hy2, h3]) (by rw [t1, t2])⟩
      · exact .inr (h.cons _)
  · rw [if_neg ht]
    right
    obtain ⟨r1, e1⟩ := keyL_head p
    obtain ⟨r2, e2⟩ := keyL_head q
    obtain ⟨p0, p1⟩ := isP_ty hp
    obtain ⟨q0, q1⟩ := isP_ty hq
    rw [e1, e2]
    refine ⟨[], _, _, r1, r2, rfl, rfl, ?_, ?_⟩
    · intro hh
      have := congrArg (fun x : UInt8 => (x.toNat : Int)) hh
      simp only [ty_byte p0 p1, ty_byte q0 q1] at this
      exact ht this
    · rw [ty_byte p0 p1, ty_byte q0 q1]

theorem parts_cmp : ∀ (ps qs : List Pt), (∀ p ∈ ps, isP p = true) → (∀ q ∈ qs, isP q = true) → cmpPs ps qs = cmpL (keyR ps) (keyR qs) ∧ (cmpPs ps qs = 0 → ps = qs) := by
  intro ps
  induction ps with
  | nil =>
    intro qs _ hq
    cases qs with
    | nil => exact ⟨by show (0 : Int) = cmpL [255] [255]; rw [cmpL_self], fun _ => rfl⟩
    | cons q qs =>
      obtain ⟨r, e⟩ := keyL_head q
      obtain ⟨q0, q1⟩ := isP_ty (hq q (by simp))
      have hb := ty_byte q0 q1
      refine ⟨?_, fun h => by cases h⟩
      show (1 : Int) = cmpL [255] ((keyL q ++ qs.flatMap keyL) ++ [255])
      rw [e, List.cons_append, List.cons_append, cmpL_cons]
      generalize UInt8.ofNat q.ty.toNat = b at hb
      have hne : ¬ (255 : UInt8) = b := fun hh => by subst hh; simp at hb; omega
      rw [if_neg hne]
      unfold lowF
      have h255 : ((255 : UInt8).toNat : Int) = 255 := rfl
      rw [h255, if_neg (by omega), if_pos (by omega)]
  | cons p ps ih =>
    intro qs hp hq
    cases qs with
    | nil =>
      obtain ⟨r, e⟩ := keyL_head p
      obtain ⟨q0, q1⟩ := isP_ty (hp p (by simp))
      have hb := ty_byte q0 q1
      refine ⟨?_, fun h => by cases h⟩
      show (-1 : Int) = cmpL ((keyL p ++ ps.flatMap keyL) ++ [255]) [255]
      rw [e, List.cons_append, List.cons_append, cmpL_cons]
      generalize UInt8.ofNat p.ty.toNat = b at hb
      have hne : ¬ b = (255 : UInt8) := fun hh => by subst hh; simp at hb; omega
      rw [if_neg hne]
      unfold lowF
      have h255 : ((255 : UInt8).toNat : Int) = 255 := rfl
      rw [h255, if_pos (by omega)]
    | cons q qs =>
      have h1 := ih qs (fun x hx => hp x (by simp [hx])) (fun x hx => hq x (by simp [hx]))
      have e1 : keyR (p :: ps) = keyL p ++ keyR ps := by unfold keyR; simp
      have e2 : keyR (q :: qs) = keyL q ++ keyR qs := by unfold keyR; simp
      rw [e1, e2]
      show (if cmpP p q = 0 then cmpPs ps qs else cmpP p q) = _ ∧ ((if cmpP p q = 0 then cmpPs ps qs else cmpP p q) = 0 → _)
      rcases part_cmp (hp p (by simp)) (hq q (by simp)) with ⟨h2, h3⟩ | h2
      · subst h3
        rw [if_pos h2, cmpL_app]
        exact ⟨h1.1, fun h => by rw [h1.2 h]⟩
      · rw [if_neg h2.ne, h2.cmp]
        exact ⟨rfl, fun h => absurd h h2.ne⟩

/-- Of three texts. -/
theorem cmpL_anti (x y : List UInt8) : cmpL x y = -cmpL y x := by
  induction x generalizing y with
  | nil => cases y with
    | nil => rfl
    | cons b y => rfl
  | cons a x ih =>
    cases y with
    | nil => rfl
    | cons b y =>
      rw [cmpL_cons, cmpL_cons]
      by_cases h : a = b
      · subst h; rw [if_pos rfl, if_pos rfl]; exact ih y
      · rw [if_neg h, if_neg (fun hh => h hh.symm)]
        unfold lowF
        (repeat' split) <;> omega

theorem cmpL_zero {x y : List UInt8} (h : cmpL x y = 0) : x = y := by
  unfold cmpL at h
  split at h
  · omega
  · split at h
    · assumption
    · omega

theorem cmpL_bd (x y : List UInt8) : -1 ≤ cmpL x y ∧ cmpL x y ≤ 1 := by
  unfold cmpL; (repeat' split) <;> omega

theorem cmpL_trans : ∀ (x y z : List UInt8), cmpL x y < 0 → cmpL y z < 0 → cmpL x z < 0 := by
  intro x
  induction x with
  | nil =>
    intro y z h1 h2
    cases z with
    | nil => cases y with
      | nil => exact h1
      | cons b y => exact absurd h2 (by show ¬ (1 : Int) < 0; omega)
    | cons c z => show (-1 : Int) < 0; omega
  | cons a x ih =>
    intro y z h1 h2
    cases y with
    | nil => exact absurd h1 (by show ¬ (1 : Int) < 0; omega)
    | cons b y =>
      cases z with
      | nil => exact absurd h2 (by show ¬ (1 : Int) < 0; omega)
      | cons c z =>
        rw [cmpL_cons] at h1 h2 ⊢
        by_cases hab : a = b
        · subst hab
          rw [if_pos rfl] at h1
          by_cases hac : a = c
          · rw [if_pos hac] at h2 ⊢
            exact ih y z h1 h2
          · rw [if_neg hac] at h2 ⊢
            exact h2
        · rw [if_neg hab] at h1
          by_cases hbc : b = c
          · subst hbc
            rw [if_neg hab]
            exact h1
          · rw [if_neg hbc] at h2
            have l1 : (a.toNat : Int) < b.toNat := by unfold lowF at h1; (repeat' split at h1) <;> omega
            have l2 : (b.toNat : Int) < c.toNat := by unfold lowF at h2; (repeat' split at h2) <;> omega
            have hac : ¬ a = c := fun hh => by subst hh; omega
            rw [if_neg hac]
            unfold lowF
            rw [if_pos (by omega)]
            omega
end Go.Proofs.Ytkdcjcemeipkjaa
