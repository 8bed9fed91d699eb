import Derived.Test.YtgkiknfpcbcnnabGreatGn
import Derived.Test.YtgkiknfpcbcnnabGreatGq
import Derived.Test.YtgkiknfpcbcnnabGreatGr
namespace Go.Proofs.YtgkiknfpcbcnnabGreat
open Go.RowKit
set_option maxRecDepth 20000

/-- A header's bits. -/
def hbL (h : Hd) : List UInt8 := (binL h.ds.toNat 16 ++ binL h.sr.toNat 16) ++ binL h.pr.toNat 8 ++ binL h.po.toNat 16 ++ binL h.fl.toNat 8 ++ [if h.la then 49 else 48]

/-- Of a field: does its part match, or is there none? -/
def fmS (k : Int) (h : Hd) : List Pt → Bool
  | [] => true
  | p :: r => if p.ty = k then ptM p h else fmS k h r

theorem fmS_none (k : Int) (h : Hd) : ∀ (ps : List Pt) (b : Int), allP b ps = true → k ≤ b → fmS k h ps = true := by
  intro ps
  induction ps with
  | nil => intro b _ _; rfl
  | cons p r ih =>
    intro b ha hk
    simp only [allP, Bool.and_eq_true, decide_eq_true_eq] at ha
    simp only [fmS]
    rw [if_neg (by omega)]
    exact ih p.ty ha.2 (by omega)

theorem all_fields (h : Hd) : ∀ (ps : List Pt) (b : Int), allP b ps = true → ps.all (ptM · h) = (fmS 1 h ps && fmS 2 h ps && fmS 3 h ps && fmS 4 h ps && fmS 5 h ps) := by
  intro ps
  induction ps with
  | nil => intro b _; rfl
  | cons p r ih =>
    intro b ha
    simp only [allP, Bool.and_eq_true, decide_eq_true_eq] at ha
    have e := ih p.ty ha.2
    have hn := fmS_none p.ty h r p.ty ha.2 (Int.le_refl _)
    have hty := isP_ty ha.1.2
    have hk : p.ty = 1 ∨ p.ty = 2 ∨ p.ty = 3 ∨ p.ty = 4 ∨ p.ty = 5 := by omega
    rw [List.all_cons, e]
    simp only [fmS]
    rcases hk with hk | hk | hk | hk | hk
    all_goals
      rw [hk] at hn
      simp only [hk, hn, Bool.true_and, Bool.and_true, if_true]
      simp
      try (cases ptM p h <;> cases fmS 1 h r <;> cases fmS 2 h r <;> cases fmS 3 h r <;> cases fmS 4 h r <;> cases fmS 5 h r <;> rfl)

/-- Of a field, Later aside: does its part's set hold the number, or is there none? -/
def fvS (k : Int) (v : Nat) : List Pt → Bool
  | [] => true
  | p :: r => if p.ty = k then (if hasP p.ty then lies v p.bt p.ln else gH p.ty v p.ts) else fvS k v r

theorem pref_fit (b l v : Nat) (hl : l ≤ 16) (hv : v ≤ 65535) (hb : b ≤ 65535) : fitL (binL (b / 2 ^ (16 - l)) l ++ List.replicate (16 - l) 42) (binL v 16) = lies v b l := by
  have e := key_split v 16 l hl (Nat.le_refl _)
  simp only [Nat.sub_self, Nat.pow_zero, Nat.div_one] at e
  rw [e, fitL_app _ _ _ _ (by rw [binL_len, binL_len])]
  have hd : ((binL v 16).drop l).length = 16 - l := by rw [List.length_drop, binL_len]
  have hst := fitL_stars ((binL v 16).drop l)
  rw [hd] at hst
  rw [hst, Bool.and_true, lies_nat v b l hl]
  have hfit : ∀ (x y n : Nat), x < 2 ^ n → y < 2 ^ n → fitL (binL x n) (binL y n) = decide (y = x) := by
    intro x y n hx hy
    by_cases he : y = x
    · subst he; rw [fitL_self]; simp
    · rw [decide_eq_false he]
      have hdig : ∀ m, fitL (binL x m) (binL y m) = true → binL x m = binL y m := by
        intro m
        induction m with
        | zero => intro _; rfl
        | succ m ih =>
          intro hh
          simp only [binL, fitL, Bool.and_eq_true, Bool.or_eq_true, beq_iff_eq] at hh
          simp only [binL]
          rw [ih hh.2]
          congr 1
          rcases hh.1 with h1 | h1
          · exfalso; unfold dgL at h1; split at h1 <;> exact absurd h1 (by decide)
          · exact h1
      cases hf : fitL (binL x n) (binL y n)
      · rfl
      · exact absurd (binL_inj n x y hx hy (hdig n hf)).symm he
  rw [hfit _ _ l (shr_lt b l hl hb) (shr_lt v l hl hv)]

theorem blkP_count {p : Pt} (hp : isP p = true) (v : Nat) (hv : v < 2 ^ wOf p.ty) : (blkP p).countP (fun b => fitL b (binL v (wOf p.ty))) = if (if hasP p.ty then lies v p.bt p.ln else gH p.ty v p.ts) then 1 else 0 := by
  unfold blkP
  cases hk : hasP p.ty
  · simp only [Bool.false_eq_true, if_false]
    have := covS_count (fun v => gH p.ty v p.ts) (wOf p.ty) [] 0 v (Nat.div_eq_of_lt hv)
    simpa using this
  · simp only [if_true]
    have hb := hasP_bd hk
    have hw : wOf p.ty = 16 := by unfold wOf; rw [if_neg (by omega)]
    obtain ⟨o1, o2, o3, o4, _⟩ := prefOK_bd (isP_pref hp hk).2
    obtain ⟨b, hb'⟩ := Int.eq_ofNat_of_zero_le o3
    obtain ⟨l, hl'⟩ := Int.eq_ofNat_of_zero_le o1
    rw [hw] at hv ⊢
    rw [hb'] at o4 ⊢
    rw [hl'] at o2 ⊢
    simp only [Int.toNat_natCast]
    have e := pref_fit b l v (by omega) (by omega) (by omega)
    cases hx : lies (v : Int) (b : Int) (l : Int)
    · rw [hx] at e; simp [e]
    · rw [hx] at e; simp [e]

theorem blkS_count (k : Int) (v : Nat) (hv : v < 2 ^ wOf k) : ∀ ps : List Pt, (∀ p ∈ ps, isP p = true) → (blkS k ps).countP (fun b => fitL b (binL v (wOf k))) = if fvS k v ps then 1 else 0 := by
  intro ps
  induction ps with
  | nil =>
    intro _
    have := fitL_stars (binL v (wOf k))
    rw [binL_len] at this
    simp [blkS, fvS, this]
  | cons p r ih =>
    intro h
    simp only [blkS, fvS]
    split
    · rename_i he
      subst he
      exact blkP_count (h p (by simp)) v hv
    · exact ih (fun x hx => h x (by simp [hx]))

theorem countP_and (q : List UInt8 → Bool) (K : Bool) (C : List (List UInt8)) : C.countP (fun c => K && q c) = if K then C.countP q else 0 := by
  cases K
  · simp
  · simp

theorem countP_flat (p q : List UInt8 → Bool) (f : List UInt8 → List (List UInt8)) (n : Nat) : ∀ A : List (List UInt8), (∀ a ∈ A, (f a).countP p = if q a then n else 0) → (A.flatMap f).countP p = A.countP q * n := by
  intro A
  induction A with
  | nil => intro _; simp
  | cons a A ih =>
    intro h
    rw [List.flatMap_cons, List.countP_append, h a (by simp), ih (fun x hx => h x (by simp [hx])), List.countP_cons]
    cases q a
    · simp
    · simp [Nat.add_mul, Nat.add_comm]

theorem cubes_fit (d s : List UInt8) (A B C : List (List UInt8)) (e : UInt8) (x1 x2 x3 x4 x5 x6 : List UInt8) (h1 : d.length = x1.length) (h2 : s.length = x2.length) (h3 : ∀ a ∈ A, a.length = x3.length) (h4 : ∀ a ∈ B, a.length = x4.length) (h5 : ∀ a ∈ C, a.length = x5.length) (K : Bool) (hK : (fitL d x1 && fitL s x2 && fitL [e] x6) = K) :
    (A.flatMap fun a => B.flatMap fun b => C.map fun c => (d ++ s) ++ a ++ b ++ c ++ [e]).countP (fun z => fitL z ((x1 ++ x2) ++ x3 ++ x4 ++ x5 ++ x6)) = if K then A.countP (fun b => fitL b x3) * (B.countP (fun b => fitL b x4) * C.countP (fun b => fitL b x5)) else 0 := by
  have main : (A.flatMap fun a => B.flatMap fun b => C.map fun c => (d ++ s) ++ a ++ b ++ c ++ [e]).countP (fun z => fitL z ((x1 ++ x2) ++ x3 ++ x4 ++ x5 ++ x6)) = A.countP (fun a => K && fitL a x3) * (B.countP (fun b => fitL b x4) * C.countP (fun c => fitL c x5)) := by
    refine countP_flat _ _ _ _ A fun a ha => ?_
    have hB : (B.flatMap fun b => C.map fun c => (d ++ s) ++ a ++ b ++ c ++ [e]).countP (fun z => fitL z ((x1 ++ x2) ++ x3 ++ x4 ++ x5 ++ x6)) = B.countP (fun b => (K && fitL a x3) && fitL b x4) * C.countP (fun c => fitL c x5) := by
      refine countP_flat _ _ _ _ B fun b hb => ?_
      rw [List.countP_map]
      have hC : C.countP ((fun z => fitL z ((x1 ++ x2) ++ x3 ++ x4 ++ x5 ++ x6)) ∘ fun c => (d ++ s) ++ a ++ b ++ c ++ [e]) = C.countP (fun c => ((K && fitL a x3) && fitL b x4) && fitL c x5) := by
        refine List.countP_congr fun c hc => ?_
        show fitL ((d ++ s) ++ a ++ b ++ c ++ [e]) ((x1 ++ x2) ++ x3 ++ x4 ++ x5 ++ x6) = true ↔ _
        rw [fitL_app _ _ _ _ (by simp [h1, h2, h3 a ha, h4 b hb, h5 c hc]), fitL_app _ _ _ _ (by simp [h1, h2, h3 a ha, h4 b hb]), fitL_app _ _ _ _ (by simp [h1, h2, h3 a ha]), fitL_app _ _ _ _ (by simp [h1, h2]), fitL_app _ _ _ _ h1, ← hK]
        simp only [Bool.and_eq_true]
        constructor
        · rintro ⟨⟨⟨⟨⟨q1, q2⟩, q3⟩, q4⟩, q5⟩, q6⟩; exact ⟨⟨⟨⟨⟨q1, q2⟩, q6⟩, q3⟩, q4⟩, q5⟩
        · rintro ⟨⟨⟨⟨⟨q1, q2⟩, q6⟩, q3⟩, q4⟩, q5⟩; exact ⟨⟨⟨⟨⟨q1, q2⟩, q3⟩, q4⟩, q5⟩, q6⟩
      rw [hC, countP_and]
    rw [hB, countP_and]
    cases (K && fitL a x3) <;> simp
  rw [main, countP_and]
  cases K <;> simp
end Go.Proofs.YtgkiknfpcbcnnabGreat

namespace Go.Proofs.YtgkiknfpcbcnnabGreat
open Go.RowKit
set_option maxRecDepth 20000

def hasK (k : Int) (ps : List Pt) : Bool := ps.any (fun p => decide (p.ty = k))

theorem fmS_eq (k : Int) (h : Hd) (v : Nat) (hv : fldV h k = (v : Int)) : ∀ ps : List Pt, fmS k h ps = (fvS k v ps && (!(decide (4 ≤ k) && hasK k ps) || !h.la)) := by
  intro ps
  induction ps with
  | nil => simp [fmS, fvS, hasK]
  | cons p r ih =>
    simp only [fmS, fvS]
    by_cases he : p.ty = k
    · rw [if_pos he, if_pos he]
      unfold ptM fldB
      rw [he, hv]
      have hk : hasK k (p :: r) = true := by simp [hasK, he]
      rw [hk, Bool.and_true]
      by_cases h4 : 4 ≤ k
      · simp [h4, Bool.and_comm]
      · simp [h4]
    · rw [if_neg he, if_neg he, ih]
      have hk : hasK k (p :: r) = hasK k r := by simp [hasK, he]
      rw [hk]

theorem any4 : ∀ ps : List Pt, (∀ p ∈ ps, isP p = true) → ps.any (fun p => decide (4 ≤ p.ty)) = (hasK 4 ps || hasK 5 ps) := by
  intro ps
  induction ps with
  | nil => intro _; rfl
  | cons p r ih =>
    intro h
    have hty := isP_ty (h p (by simp))
    have e := ih (fun x hx => h x (by simp [hx]))
    unfold hasK at e ⊢
    simp only [List.any_cons, e]
    have : decide (4 ≤ p.ty) = (decide (p.ty = 4) || decide (p.ty = 5)) := by
      rw [Bool.eq_iff_iff]; simp; omega
    rw [this]
    cases decide (p.ty = 4) <;> cases decide (p.ty = 5) <;> simp

theorem one_le (b : Bool) : (if b then 1 else 0 : Nat) = if b then 1 else 0 := rfl

/-- A rule matches a header just if one of its cubes fits, and never do two. -/
theorem cubS_count (ps : List Pt) (hR : isR ps = true) (h : Hd) (hh : hdOK h = true) : (cubS ps).countP (fun c => fitL c (hbL h)) = if ps.all (ptM · h) then 1 else 0 := by
  unfold isR at hR
  simp only [Bool.and_eq_true] at hR
  have hP : ∀ p ∈ ps, isP p = true := by
    intro p hp
    obtain ⟨j, hj, rfl⟩ := List.getElem_of_mem hp
    exact allP_get ps 0 hR.1 j hj
  obtain ⟨ds, sr, pr, po, fl, la⟩ := h
  simp only [hdOK, Bool.and_eq_true] at hh
  obtain ⟨⟨⟨⟨k1, k2⟩, k3⟩, k4⟩, k5⟩ := hh
  have k1 := isN_bd k1
  have k2 := isN_bd k2
  have k3 := isN_bd k3
  have k4 := isN_bd k4
  have k5 := isN_bd k5
  obtain ⟨n1, rfl⟩ := Int.eq_ofNat_of_zero_le k1.1
  obtain ⟨n2, rfl⟩ := Int.eq_ofNat_of_zero_le k2.1
  obtain ⟨n3, rfl⟩ := Int.eq_ofNat_of_zero_le k3.1
  obtain ⟨n4, rfl⟩ := Int.eq_ofNat_of_zero_le k4.1
  obtain ⟨n5, rfl⟩ := Int.eq_ofNat_of_zero_le k5.1
  have c1 := blkS_count 1 n1 (by show n1 < 2 ^ 16; omega) ps hP
  have c2 := blkS_count 2 n2 (by show n2 < 2 ^ 16; omega) ps hP
  have c3 := blkS_count 3 n3 (by show n3 < 2 ^ 8; omega) ps hP
  have c4 := blkS_count 4 n4 (by show n4 < 2 ^ 16; omega) ps hP
  have c5 := blkS_count 5 n5 (by show n5 < 2 ^ 8; omega) ps hP
  obtain ⟨d, hd⟩ := blkS_one 1 (.inl rfl) ps
  obtain ⟨s, hs⟩ := blkS_one 2 (.inr rfl) ps
  have l1 : d.length = 16 := blkS_w 1 ps hP d (by rw [hd]; simp)
  have l2 : s.length = 16 := blkS_w 2 ps hP s (by rw [hs]; simp)
  have l3 := blkS_w 3 ps hP
  have l4 := blkS_w 4 ps hP
  have l5 := blkS_w 5 ps hP
  have w1 : wOf 1 = 16 := rfl
  have w2 : wOf 2 = 16 := rfl
  have w3 : wOf 3 = 8 := rfl
  have w4 : wOf 4 = 16 := rfl
  have w5 : wOf 5 = 8 := rfl
  rw [hd, w1] at c1
  rw [hs, w2] at c2
  rw [w3] at c3 l3
  rw [w4] at c4 l4
  rw [w5] at c5 l5
  have f1 : fitL d (binL n1 16) = fvS 1 n1 ps := by
    cases hx : fitL d (binL n1 16) <;> cases hy : fvS 1 n1 ps <;> rw [hy] at c1 <;> simp [hx] at c1 ⊢
  have f2 : fitL s (binL n2 16) = fvS 2 n2 ps := by
    cases hx : fitL s (binL n2 16) <;> cases hy : fvS 2 n2 ps <;> rw [hy] at c2 <;> simp [hx] at c2 ⊢
  have fe : fitL [endC ps] [if la then (49 : UInt8) else 48] = (!(hasK 4 ps || hasK 5 ps) || !la) := by
    unfold endC
    rw [any4 ps hP]
    cases hasK 4 ps <;> cases hasK 5 ps <;> cases la <;> decide
  have hall := all_fields ⟨n1, n2, n3, n4, n5, la⟩ ps 0 hR.1
  rw [fmS_eq 1 ⟨n1, n2, n3, n4, n5, la⟩ n1 rfl, fmS_eq 2 ⟨n1, n2, n3, n4, n5, la⟩ n2 rfl, fmS_eq 3 ⟨n1, n2, n3, n4, n5, la⟩ n3 rfl, fmS_eq 4 ⟨n1, n2, n3, n4, n5, la⟩ n4 rfl, fmS_eq 5 ⟨n1, n2, n3, n4, n5, la⟩ n5 rfl] at hall
  have e1 : decide ((4 : Int) ≤ 1) = false := by decide
  have e2 : decide ((4 : Int) ≤ 2) = false := by decide
  have e3 : decide ((4 : Int) ≤ 3) = false := by decide
  have e4 : decide ((4 : Int) ≤ 4) = true := by decide
  have e5 : decide ((4 : Int) ≤ 5) = true := by decide
  rw [e1, e2, e3, e4, e5] at hall
  rw [hall]
  unfold cubS hbL
  rw [hd, hs]
  simp only [List.headD_cons, Int.toNat_natCast]
  rw [cubes_fit d s (blkS 3 ps) (blkS 4 ps) (blkS 5 ps) (endC ps) (binL n1 16) (binL n2 16) (binL n3 8) (binL n4 16) (binL n5 8) [if la then (49 : UInt8) else 48] (by rw [l1, binL_len]) (by rw [l2, binL_len]) (fun a ha => by rw [l3 a ha, binL_len]) (fun a ha => by rw [l4 a ha, binL_len]) (fun a ha => by rw [l5 a ha, binL_len]) _ rfl, c3, c4, c5, f1, f2, fe]
  generalize fvS 1 n1 ps = b1
  generalize fvS 2 n2 ps = b2
  generalize fvS 3 n3 ps = b3
  generalize fvS 4 n4 ps = b4
  generalize fvS 5 n5 ps = b5
  generalize hasK 1 ps = q1
  generalize hasK 2 ps = q2
  generalize hasK 3 ps = q3
  generalize hasK 4 ps = q4
  generalize hasK 5 ps = q5
  cases b1 <;> cases b2 <;> cases b3 <;> cases b4 <;> cases b5 <;> cases q4 <;> cases q5 <;> cases la <;> simp
end Go.Proofs.YtgkiknfpcbcnnabGreat

namespace Go.Proofs.YtgkiknfpcbcnnabGreat
open Go.RowKit
set_option maxRecDepth 20000

theorem bit_at (v j : Nat) (hv : v ≤ 65535) : (bits BinOp.and IntKind.i64 ((v : Int) / 2 ^ j) 1 == 1) = decide (v / 2 ^ j % 2 = 1) := by
  have e0 : (2 : Int) ^ j = ((2 ^ j : Nat) : Int) := by simp
  rw [e0, ← Int.natCast_ediv]
  have hd : v / 2 ^ j ≤ v := Nat.div_le_self _ _
  generalize v / 2 ^ j = x at *
  have e := bits_mask x 1 (by omega) (by omega)
  have e' : bits BinOp.and IntKind.i64 (x : Int) 1 = ((x % 2 : Nat) : Int) := e
  rw [e', Bool.eq_iff_iff]
  simp only [beq_iff_eq, decide_eq_true_eq]
  omega

set_option maxHeartbeats 400000 in
theorem low_any (v : Nat) (n : Nat) (w : World) (hv : v ≤ 65535) (hn : n ≤ 16) :
    Calls Tryz.prog 77 #[.int .i64 v, .int .i64 n] w fun e w' => e = .returned (.string (bin v n)) ∧ w = w' := by
  go_enter Tryz.func77, Tryz.ntmps77
  go_wp2
  go_loop [5, 6] (fun s i => ∃ j : Nat, j ≤ n ∧ s = .string (bin v j) ∧ i = .int .i64 j) (fun _ i => n - (intOf i).toNat)
  case atStart => exact ⟨0, Nat.zero_le _, rfl, rfl⟩
  case round =>
    obtain ⟨j, hj, rfl, rfl⟩ := hrel
    have hs := bin_size v j
    by_cases hlt : j < n
    · have hb := bit_at v j hv
      have HB : Hid (bin v (j + 1) = dg (v / 2 ^ j) ++ bin v j) := rfl
      by_cases h1 : v / 2 ^ j % 2 = 1
      · rw [decide_eq_true h1] at hb
        have HD : Hid (dg (v / 2 ^ j) = ⟨#[49]⟩) := by show dg _ = _; unfold dg; rw [if_pos h1]
        clear h1
        generalize bin v j = s at *
        go_wp2
        go_round
        case rel => exact ⟨j + 1, by omega, by rw [HB.out, HD.out], by go_num⟩
        case measure => simp [intOf]; omega
      · rw [decide_eq_false h1] at hb
        have HD : Hid (dg (v / 2 ^ j) = ⟨#[48]⟩) := by show dg _ = _; unfold dg; rw [if_neg h1]
        clear h1
        generalize bin v j = s at *
        go_wp2
        go_round
        case rel => exact ⟨j + 1, by omega, by rw [HB.out, HD.out], by go_num⟩
        case measure => simp [intOf]; omega
    · have : j = n := by omega
      subst this
      go_wp2
      go_ret
      exact ⟨rfl, rfl⟩

theorem low_w (v : Nat) (i : Int) (hv : v ≤ 65535) (h0 : 0 ≤ i) (h1 : i ≤ 16) (w : World) (q : Nat) : Calls Tryz.prog 77 #[.int .i64 v, .int .i64 i] (w.drewN q) fun e w' => e = .returned (.string (bin v i.toNat)) ∧ ∃ k, w' = w.drewN k := by
  obtain ⟨n, rfl⟩ := Int.eq_ofNat_of_zero_le h0
  exact Calls.quiet_of_same ((low_any v n _ hv (by omega)).mono fun _ _ h' => ⟨h'.1, h'.2.symm⟩)

/-- A header's bits as a text. -/
def hbB (n1 n2 n3 n4 n5 : Nat) (la : Bool) : ByteArray := bin n1 16 ++ bin n2 16 ++ bin n3 8 ++ bin n4 16 ++ bin n5 8 ++ (if la then ⟨#[49]⟩ else ⟨#[48]⟩)

theorem bl_hbB (n1 n2 n3 n4 n5 : Nat) (la : Bool) : bl (hbB n1 n2 n3 n4 n5 la) = hbL ⟨n1, n2, n3, n4, n5, la⟩ := by
  unfold hbB hbL
  simp only [bl_app, bl_bin, Int.toNat_natCast]
  cases la <;> rfl

set_option maxHeartbeats 800000 in
theorem bits_any (n1 n2 n3 n4 n5 : Nat) (la : Bool) (w : World) (h1 : n1 ≤ 65535) (h2 : n2 ≤ 65535) (h3 : n3 ≤ 65535) (h4 : n4 ≤ 65535) (h5 : n5 ≤ 65535) :
    Calls Tryz.prog 48 #[.agg #[.int .i64 n1, .int .i64 n2, .int .i64 n3, .int .i64 n4, .int .i64 n5, .bool la]] w fun e w' => e = .returned (.string (hbB n1 n2 n3 n4 n5 la)) ∧ Below w.heap.size w w' := by
  have s1 := bin_size n1 16
  have s2 := bin_size n2 16
  have s3 := bin_size n3 8
  have s4 := bin_size n4 16
  have s5 := bin_size n5 8
  cases la
  all_goals
    go_enter Tryz.func48, Tryz.ntmps48
    go_wp2_with fail
    go_quiet ((go_at_call 77; exact low_w _ _ (by assumption) (by decide) (by decide) _ _))
    go_wp2_with fail
    go_ret
    exact ⟨rfl, below_drewN (below_alloc _ _) _⟩
end Go.Proofs.YtgkiknfpcbcnnabGreat

namespace Go.Proofs.YtgkiknfpcbcnnabGreat
open Go.RowKit
set_option maxRecDepth 20000

set_option maxHeartbeats 800000 in
theorem fits_any (c b : ByteArray) (w : World) (hs : c.size = b.size) (hb : b.size ≤ 1000) :
    Calls Tryz.prog 78 #[.string c, .string b] w fun e w' => e = .returned (.bool (fitL (bl c) (bl b))) ∧ ∃ n, w' = w.drewN n := by
  go_enter Tryz.func78, Tryz.ntmps78
  have hse : ((c.size : Int) == (b.size : Int)) = true := by rw [hs]; simp
  have HS : Hid (c.size = b.size) := hs
  go_wp2
  go_loopw [5] (fun x wr => ∃ j n : Nat, x = .int .i64 j ∧ j ≤ b.size ∧ wr = w.drewN n ∧ Hid (fitL (bl c) (bl b) = fitL ((bl c).drop j) ((bl b).drop j))) (fun x _ => b.size - (intOf x).toNat)
  case atStart => exact ⟨0, 0, rfl, Nat.zero_le _, rfl, rfl⟩
  case round =>
    obtain ⟨j, n, rfl, hj, rfl, H⟩ := hrel
    by_cases h2 : j < b.size
    · have h1 : j < c.size := by omega
      have i1 : (j : Int) < (c.size : Int) := by omega
      have i2 : (j : Int) < (b.size : Int) := by omega
      have hd : fitL ((bl c).drop j) ((bl b).drop j) = ((c[j] == 42 || c[j] == b[j]) && fitL ((bl c).drop (j + 1)) ((bl b).drop (j + 1))) := by
        rw [bl_get c j h1, bl_get b j h2]; rfl
      rw [hd] at H
      clear hd
      by_cases e42 : c[j] = 42
      · have HN : Hid (fitL (bl c) (bl b) = fitL ((bl c).drop (j + 1)) ((bl b).drop (j + 1))) := by show _ = _; rw [H.out, e42]; simp
        have q1 : ((c[j].toNat : Int) == 42) = true := by rw [e42]; rfl
        have q1' : ((c[j].toNat : Int) != 42) = false := by rw [bne, q1]; rfl
        clear H e42 hs
        go_wp2_with fail
        go_quiet (fail)
        go_wp2
        go_roundw
        case rel => exact ⟨j + 1, _, by go_num, by omega, rfl, HN⟩
        case measure => simp [intOf]; omega
      · have q1 : ((c[j].toNat : Int) == 42) = false := beq_eq_false_iff_ne.2 fun hh => e42 (UInt8.toNat_inj.1 (by show c[j].toNat = 42; omega))
        have q1' : ((c[j].toNat : Int) != 42) = true := by rw [bne, q1]; rfl
        by_cases eb : c[j] = b[j]
        · have HN : Hid (fitL (bl c) (bl b) = fitL ((bl c).drop (j + 1)) ((bl b).drop (j + 1))) := by show _ = _; rw [H.out, eb]; simp
          have q2 : ((c[j].toNat : Int) == (b[j].toNat : Int)) = true := by rw [eb]; simp
          have q2' : ((c[j].toNat : Int) != (b[j].toNat : Int)) = false := by rw [bne, q2]; rfl
          clear H e42 hs eb
          go_wp2_with fail
          go_quiet (fail)
          go_wp2
          go_roundw
          case rel => exact ⟨j + 1, _, by go_num, by omega, rfl, HN⟩
          case measure => simp [intOf]; omega
        · have HN : Hid (fitL (bl c) (bl b) = false) := by
            show _ = _
            have z1 : (c[j] == 42) = false := beq_eq_false_iff_ne.2 e42
            have z2 : (c[j] == b[j]) = false := beq_eq_false_iff_ne.2 eb
            rw [H.out, z1, z2]; rfl
          have q2 : ((c[j].toNat : Int) == (b[j].toNat : Int)) = false := beq_eq_false_iff_ne.2 fun hh => eb (UInt8.toNat_inj.1 (by omega))
          have q2' : ((c[j].toNat : Int) != (b[j].toNat : Int)) = true := by rw [bne, q2]; rfl
          clear H e42 hs eb
          go_wp2_with fail
          go_quiet (fail)
          go_wp2
          go_ret
          exact ⟨by rw [HN.out]; rfl, _, by rw [World.drewN_drewN]⟩
    · have HN : Hid (fitL (bl c) (bl b) = true) := by
        show _ = _
        rw [H.out, List.drop_of_length_le (l := bl b) (by rw [bl_len]; omega), List.drop_of_length_le (l := bl c) (by rw [bl_len]; omega)]
        rfl
      clear H hs
      go_wp2
      go_ret
      exact ⟨by rw [HN.out]; rfl, _, rfl⟩
end Go.Proofs.YtgkiknfpcbcnnabGreat
