import Derived.Test.YtgkiknfpcbcnnaaGreatGo
import Derived.Test.YtgkiknfpcbcnnaaGreatGn
namespace Go.Proofs.YtgkiknfpcbcnnaaGreat
open Go.RowKit
set_option maxRecDepth 20000
def blkPN (p : Pt) : List (Nat × Nat) := if hasP p.ty then [(p.bt.toNat, 2 ^ (16 - p.ln.toNat))] else covN (fun v => gH p.ty (v : Int) p.ts) (wOf p.ty) 0
def blkN (k : Int) : List Pt → List (Nat × Nat)
  | [] => [(0, 2 ^ wOf k)]
  | p :: r => if p.ty = k then blkPN p else blkN k r
theorem blkPN_text {p : Pt} (hp : isP p = true) : (blkPN p).map (fun b => txL b.1 b.2 (wOf p.ty)) = blkP p := by
  unfold blkPN blkP
  cases h : hasP p.ty
  · simp only [Bool.false_eq_true, if_false]
    have := covN_text (fun v => gH p.ty (v : Int) p.ts) (wOf p.ty) 0 0
    rw [Nat.zero_add] at this
    exact this
  · simp only [if_true, List.map_cons, List.map_nil]
    obtain ⟨l0, l1, b0, b1, hm⟩ := prefOK_bd (isP_pref hp h).2
    have hk := hasP_bd h
    have hw : wOf p.ty = 16 := by unfold wOf; rw [if_neg (by omega)]
    rw [hw]
    obtain ⟨l, hl⟩ := Int.eq_ofNat_of_zero_le l0
    obtain ⟨b, hb⟩ := Int.eq_ofNat_of_zero_le b0
    rw [hl] at hm l1 ⊢
    rw [hb] at hm b1 ⊢
    simp only [Int.toNat_natCast]
    have e1 : (16 - (l : Int)).toNat = 16 - l := by omega
    rw [e1] at hm
    have e0 : (2 : Int) ^ (16 - l) = ((2 ^ (16 - l) : Nat) : Int) := by simp
    rw [e0] at hm
    have hm' : b % 2 ^ (16 - l) = 0 := by omega
    have e2 : b = b / 2 ^ (16 - l) * 2 ^ (16 - l) := by have := Nat.div_add_mod b (2 ^ (16 - l)); rw [hm', Nat.mul_comm] at this; omega
    have := txL_block (b / 2 ^ (16 - l)) (16 - l) l
    rw [← e2] at this
    have e3 : l + (16 - l) = 16 := by omega
    rw [e3] at this
    rw [this]
theorem blkN_text (k : Int) : ∀ ps : List Pt, (∀ p ∈ ps, isP p = true) → (blkN k ps).map (fun b => txL b.1 b.2 (wOf k)) = blkS k ps := by
  intro ps
  induction ps with
  | nil =>
    intro _
    simp only [blkN, blkS, List.map_cons, List.map_nil]
    rw [txL_stars 0 (wOf k) (wOf k) (Nat.le_refl _)]
  | cons p r ih =>
    intro h
    simp only [blkN, blkS]
    split
    · rename_i he
      rw [← he]
      exact blkPN_text (h p (by simp))
    · exact ih (fun x hx => h x (by simp [hx]))
theorem wOf_bd (k : Int) : 1 ≤ wOf k ∧ wOf k ≤ 16 := by unfold wOf; split <;> omega
theorem blkPN_bd {p : Pt} (hp : isP p = true) : ∀ b ∈ blkPN p, b.1 ≤ 65535 := by
  intro b hb
  unfold blkPN at hb
  split at hb
  · rename_i h
    obtain ⟨l0, l1, b0, b1, hm⟩ := prefOK_bd (isP_pref hp h).2
    simp only [List.mem_singleton] at hb
    rw [hb]
    show p.bt.toNat ≤ 65535
    omega
  · have h1 := covN_in _ _ _ b hb
    have h2 := covN_pos _ _ _ b hb
    have := (pow_bd (wOf p.ty) (wOf_bd p.ty).2).2
    omega
theorem blkN_bd (k : Int) : ∀ ps : List Pt, (∀ p ∈ ps, isP p = true) → ∀ b ∈ blkN k ps, b.1 ≤ 65535 := by
  intro ps
  induction ps with
  | nil => intro _ b hb; simp only [blkN, List.mem_singleton] at hb; rw [hb]; simp
  | cons p r ih =>
    intro h b hb
    simp only [blkN] at hb
    split at hb
    · exact blkPN_bd (h p (by simp)) b hb
    · exact ih (fun x hx => h x (by simp [hx])) b hb
theorem blkN_len (k : Int) (ps : List Pt) (h : ∀ p ∈ ps, isP p = true) : (blkN k ps).length = (blkS k ps).length := by
  rw [← blkN_text k ps h, List.length_map]
theorem mxF_pow (k : Int) : mxF k + 1 = ((2 ^ wOf k : Nat) : Int) := by
  unfold mxF wOf
  split <;> rfl
def BPost (L : List (Nat × Nat)) (B : Nat) (e : Ending) (w' : World) : Prop := ∃ v, e = .returned v ∧ BRow w' B v L
theorem cover_whole (p : Pt) (ao : Option Addr) (cap : Nat) (w : World) (hp : isP p = true) (hT : hasP p.ty = false) (ht : TermsIn w ao p.ts) :
    Calls Tryz.prog 133 #[.slice ao p.ts.length cap, .int .i64 p.ty, .agg #[.int .i64 0, .int .i64 ((2 ^ wOf p.ty : Nat) : Int)]] w fun e w' => BPost (blkPN p) w.heap.size e w' ∧ Below w.heap.size w w' := by
  have h8 := (isP_terms hp hT).2.2.2.2.1
  have hall := (isP_terms hp hT).2.2.2.2.2
  have h := cv_all (wOf p.ty) p.ts ao cap p.ty 0 (wOf p.ty) w h8 hall (Nat.le_refl _) (wOf_bd _).2 (fun h => by rw [h]; rfl) (by omega) ht
  rw [Nat.zero_mul] at h
  unfold BPost blkPN
  rw [hT]
  exact h
set_option maxHeartbeats 800000 in
theorem partBlocks_any (p : Pt) (ao : Option Addr) (cap : Nat) (w : World) (hp : isP p = true) (ht : TermsIn w ao p.ts) :
    Calls Tryz.prog 123 #[.agg #[.int .i64 p.ty, .int .i64 p.bt, .int .i64 p.ln, .slice ao p.ts.length cap], .agg #[.int .i64 0, .int .i64 ((2 ^ wOf p.ty : Nat) : Int)]] w fun e w' => BPost (blkPN p) w.heap.size e w' ∧ Below w.heap.size w w' := by
  cases hT : hasP p.ty
  · have HC : Hid (∀ w, TermsIn w ao p.ts → Calls Tryz.prog 133 #[.slice ao p.ts.length cap, .int .i64 p.ty, .agg #[.int .i64 0, .int .i64 ((2 ^ wOf p.ty : Nat) : Int)]] w fun e w' => BPost (blkPN p) w.heap.size e w' ∧ Below w.heap.size w w') := fun w h => cover_whole p ao cap w hp hT h
    generalize 2 ^ wOf p.ty = Z at *
    have hb2 : Below w.heap.size w ((w.alloc (.cells #[.int .i64 p.ty, .int .i64 p.bt, .int .i64 p.ln, .slice ao p.ts.length cap] 140)).alloc (.cells #[.int .i64 0, .int .i64 (Z : Int)] 192)) := (below_alloc _ _).alloc (by simp) _
    have ht2 := ht.below hb2
    clear ht hp
    go_enter Tryz.func123, Tryz.ntmps123
    go_wp2_with (go_at_call 114; refine (hasPrefix_any _ _).mono ?_; rintro e w' ⟨rfl, rfl⟩; rw [hT])
    refine (HC.out _ ht2).mono ?_
    rintro e w1 ⟨⟨v, rfl, hr⟩, hb⟩
    go_wp2_with fail
    go_ret
    have hz := hb2.size
    exact ⟨⟨_, rfl, hr.base hz⟩, hb2.trans (hb.mono hz)⟩
  · obtain ⟨l0, l1, b0, b1, hm⟩ := prefOK_bd (isP_pref hp hT).2
    have HB : Hid (blkPN p = [(p.bt.toNat, 2 ^ (16 - p.ln.toNat))]) := by show _ = _; unfold blkPN; rw [hT]; rfl
    have HE := bBh_eq p.ln l0 l1
    obtain ⟨ty, bt, ln, ts⟩ := p
    simp only [] at hT l0 l1 b0 b1 HB HE ht ⊢
    clear hm hp
    obtain ⟨l, rfl⟩ := Int.eq_ofNat_of_zero_le l0
    obtain ⟨b, rfl⟩ := Int.eq_ofNat_of_zero_le b0
    simp only [Int.toNat_natCast] at HB
    have e1 : (16 - (l : Int)).toNat = 16 - l := by omega
    rw [e1] at HE
    have hpw := pow_bd (16 - l) (by omega)
    generalize 2 ^ (16 - l) = q at *
    generalize 2 ^ wOf ty = Z at *
    obtain ⟨W0, hW0⟩ : ∃ W0, W0 = (w.alloc (.cells #[.int .i64 ty, .int .i64 (b : Int), .int .i64 (l : Int), .slice ao ts.length cap] 140)).alloc (.cells #[.int .i64 0, .int .i64 (Z : Int)] 192) := ⟨_, rfl⟩
    have b1' : Below (w.alloc (.cells #[.int .i64 ty, .int .i64 (b : Int), .int .i64 (l : Int), .slice ao ts.length cap] 140)).heap.size (w.alloc (.cells #[.int .i64 ty, .int .i64 (b : Int), .int .i64 (l : Int), .slice ao ts.length cap] 140)) W0 := by rw [hW0]; exact below_alloc _ _
    obtain ⟨a0, a1, a2, a3, af, az⟩ := cells_of_below b1'
    have bw := below_first b1'
    have HS : Hid (∀ w' : World, Below W0.heap.size W0 w' → w'.cell? ⟨w.heap.size, 1, none⟩ = some (.int .i64 (b : Int)) ∧ w'.cell? ⟨w.heap.size, 2, none⟩ = some (.int .i64 (l : Int)) ∧ Below W0.heap.size W0 w') := fun w' hx =>
      ⟨(hx.cell az).trans a1, (hx.cell az).trans a2, hx⟩
    have HW : Hid (W0 = (w.alloc (.cells #[.int .i64 ty, .int .i64 (b : Int), .int .i64 (l : Int), .slice ao ts.length cap] 140)).alloc (.cells #[.int .i64 0, .int .i64 (Z : Int)] 192)) := hW0
    clear a0 a1 a2 a3 af b1' hW0 ht
    have HQ : Hid (bBh (l : Int) = ((q - 1 : Nat) : Int)) := HE
    clear HE
    go_enter Tryz.func123, Tryz.ntmps123
    go_wp2_with (go_at_call 114; refine (hasPrefix_any _ _).mono ?_; rintro e w' ⟨rfl, rfl⟩; rw [hT])
    rw [← HW.out]
    clear HW
    go_region_held3 (fun w' => w'.cell? ⟨w.heap.size, 1, none⟩ = some (.int .i64 (b : Int)) ∧ w'.cell? ⟨w.heap.size, 2, none⟩ = some (.int .i64 (l : Int)) ∧ Below W0.heap.size W0 w')
      (first | exact HS.out _ (by assumption) | exact HS.out _ (Below.refl _ _).drew | exact HS.out _ ((Below.refl _ _).alloc (Nat.le_refl _) _).drew | exact HS.out _ ((Below.refl _ _).drew.alloc (by simp) _))
      (first | (go_at_call 92; refine (bitsBehind_any _ _).mono ?_; rintro e w1 ⟨rfl, rfl⟩; rw [HQ.out]))
    go_wp2_with fail
    go_ret
    have hzW : w.heap.size ≤ W0.heap.size := by have := bw.size; omega
    refine ⟨⟨_, rfl, ?_⟩, (bw.trans (((Below.refl _ _).alloc (by omega) _).drew))⟩
    have hwr : IntKind.i64.wrap (((q - 1 : Nat) : Int) + 1) = (q : Int) := by
      have e : ((q - 1 : Nat) : Int) + 1 = (q : Int) := by omega
      rw [e]
      simp [IntKind.wrap, IntKind.signed, IntKind.bits]
      omega
    rw [HB.out, hwr]
    exact BRow.one W0.drew _ b q hzW
end Go.Proofs.YtgkiknfpcbcnnaaGreat
namespace Go.Proofs.YtgkiknfpcbcnnaaGreat
open Go.RowKit
set_option maxRecDepth 20000
set_option maxHeartbeats 1000000 in
theorem fieldBlocks_any (k : Int) (ps : List Pt) (ao : Option Addr) (cap : Nat) (w : World) (l5 : ps.length ≤ 5) (hP : ∀ j (h : j < ps.length), isP ps[j] = true) (ha : PartsIn w ao ps) :
    Calls Tryz.prog 108 #[.agg #[.slice ao ps.length cap], .int .i64 k] w fun e w' => BPost (blkN k ps) w.heap.size e w' ∧ Below w.heap.size w w' := by
  have HP : Hid (∀ j (h : j < ps.length), isP ps[j] = true) := hP
  clear hP
  have hmx := mxF_pow k
  have hZ := pow_bd (wOf k) (wOf_bd k).2
  have HN0 : Hid (blkN k [] = [(0, 2 ^ wOf k)]) := rfl
  have HC : Hid (∀ p ao cap w, p.ty = k → isP p = true → TermsIn w ao p.ts → Calls Tryz.prog 123 #[.agg #[.int .i64 p.ty, .int .i64 p.bt, .int .i64 p.ln, .slice ao p.ts.length cap], .agg #[.int .i64 0, .int .i64 ((2 ^ wOf k : Nat) : Int)]] w fun e w' => BPost (blkPN p) w.heap.size e w' ∧ Below w.heap.size w w') := fun p ao cap w hk hp ht => by
    rw [← hk]; exact partBlocks_any p ao cap w hp ht
  generalize 2 ^ wOf k = Z at *
  have hm2 : mxF k = (Z : Int) - 1 := by omega
  clear hmx
  go_enter Tryz.func108, Tryz.ntmps108
  go_wp2_with (go_at_call 101; refine (maxField_any _ _).mono ?_; rintro e w' ⟨rfl, rfl⟩; rw [hm2])
  go_loopw [15] (fun x wr => ∃ j : Nat, x = .int .i64 j ∧ j ≤ ps.length ∧ Below ((w.alloc (.cells #[.slice ao ps.length cap] 114)).alloc (.cells #[.int .i64 0, .int .i64 (Z : Int)] 192)).heap.size ((w.alloc (.cells #[.slice ao ps.length cap] 114)).alloc (.cells #[.int .i64 0, .int .i64 (Z : Int)] 192)) wr ∧ Hid (blkN k ps = blkN k (ps.drop j))) (fun x _ => ps.length - (intOf x).toNat)
  case atStart => exact ⟨0, rfl, Nat.zero_le _, Below.refl _ _, rfl⟩
  case round =>
    obtain ⟨j, rfl, hj, hbel, H⟩ := hrel
    obtain ⟨a0, a1, az⟩ := cells_pr hbel
    simp only [World.size_alloc] at a0 a1 az
    have hb0 : Below w.heap.size w wr := below_first (below_first hbel)
    have hz := hb0.size
    by_cases hlt : j < ps.length
    · obtain ⟨bk, off, tao, tcap, rfl, c0, c1, c2, c3, hl, ht⟩ := ha.below hb0 j hlt
      have hd : ps.drop j = ps[j] :: ps.drop (j + 1) := List.drop_eq_getElem_cons hlt
      have hPj := HP.out j hlt
      rw [hd] at H
      clear hd HP ha HN0
      generalize ps[j] = p at *
      by_cases hty : p.ty = k
      · have HB : Hid (blkN k ps = blkPN p) := by show _ = _; rw [H.out]; simp only [blkN]; rw [if_pos hty]
        have HC1 : Hid (∀ w, TermsIn w tao p.ts → Calls Tryz.prog 123 #[.agg #[.int .i64 p.ty, .int .i64 p.bt, .int .i64 p.ln, .slice tao p.ts.length tcap], .agg #[.int .i64 0, .int .i64 (Z : Int)]] w fun e w' => BPost (blkPN p) w.heap.size e w' ∧ Below w.heap.size w w') := fun w h => HC.out p tao tcap w hty hPj h
        have ht2 := ht.below (below_alloc wr (.cells #[.int .i64 p.ty, .int .i64 p.bt, .int .i64 p.ln, .slice tao p.ts.length tcap] 140))
        have hbe : (p.ty == k) = true := by simpa using hty
        clear H HC hPj ht hty
        obtain ⟨ty, bt, ln, ts⟩ := p
        simp only [] at c0 c1 c2 c3 hl ht2 HC1 hbe
        go_wp2_with fail
        refine (HC1.out _ ht2).mono ?_
        rintro e w1 ⟨⟨v, rfl, hr⟩, hb1⟩
        go_wp2_with fail
        go_ret
        have hB := hb0.trans ((below_first hb1).mono hz)
        refine ⟨⟨_, rfl, ?_⟩, hB⟩
        rw [HB.out]
        exact hr.base (by simp; omega)
      · have HN : Hid (blkN k ps = blkN k (ps.drop (j + 1))) := by show _ = _; rw [H.out]; simp only [blkN]; rw [if_neg hty]
        have hbe : (p.ty == k) = false := by simpa using hty
        clear H HC hPj ht hty
        obtain ⟨ty, bt, ln, ts⟩ := p
        simp only [] at c0 c1 c2 c3 hl hbe
        go_wp2_with fail
        go_roundw
        case rel => exact ⟨j + 1, by go_num, by omega, hbel.alloc hbel.size _, HN⟩
        case measure => simp [intOf]; omega
    · have HN : Hid (blkN k ps = [(0, Z)]) := by show _ = _; rw [H.out, List.drop_of_length_le (by omega)]; exact HN0.out
      clear H ha HP HC HN0
      go_wp2_with fail
      go_ret
      refine ⟨⟨_, rfl, ?_⟩, hb0.alloc hz _⟩
      rw [HN.out]
      exact BRow.one wr _ 0 Z hz
theorem and_pow (a i : Nat) : (a &&& 2 ^ i = 0) ↔ ¬ a / 2 ^ i % 2 = 1 := by
  constructor
  · intro h h1
    have := congrArg (fun x => Nat.testBit x i) h
    simp only [Nat.testBit_and, Nat.testBit_two_pow_self, Bool.and_true, Nat.zero_testBit] at this
    rw [tb] at this
    simp at this
    omega
  · intro h
    apply Nat.eq_of_testBit_eq
    intro j
    rw [Nat.testBit_and, Nat.zero_testBit, Nat.testBit_two_pow]
    by_cases hij : i = j
    · subst hij
      rw [tb]; simp; omega
    · simp [hij]
theorem bit_ne (a i : Nat) (ha : a ≤ 65535) (hi : i ≤ 15) : (bits BinOp.and IntKind.i64 (a : Int) ((2 ^ i : Nat) : Int) != 0) = decide (a / 2 ^ i % 2 = 1) := by
  have h2 : 2 ^ i ≤ 32768 := by have := Nat.pow_le_pow_right (n := 2) (by omega) hi; exact this
  rw [bits_and_nat a (2 ^ i) ha (by omega), Bool.eq_iff_iff]
  simp only [bne_iff_ne, ne_eq, decide_eq_true_eq]
  have := and_pow a i
  omega
set_option maxHeartbeats 1000000 in
theorem writeBlock_any (k : Int) (a z : Nat) (w : World) (ha : a ≤ 65535) :
    Calls Tryz.prog 124 #[.agg #[.int .i64 (a : Int), .int .i64 (z : Int)], .int .i64 k] w fun e w' => (∃ B : ByteArray, e = .returned (.string B) ∧ bl B = txL a z (wOf k)) ∧ Below w.heap.size w w' := by
  have hmx := mxF_pow k
  obtain ⟨hW1, hW⟩ := wOf_bd k
  generalize wOf k = W at *
  have hp := pow_bd W hW
  have H0 : Hid (((2 ^ W : Nat) : Int) / 2 = ((2 ^ W / 2 : Nat) : Int)) := by show _ = _; omega
  have hm2 : mxF k = ((2 ^ W : Nat) : Int) - 1 := by omega
  clear hmx
  generalize hZ : 2 ^ W = Z at *
  go_enter Tryz.func124, Tryz.ntmps124
  go_wp2_with (go_at_call 101; refine (maxField_any _ _).mono ?_; rintro e w' ⟨rfl, rfl⟩; rw [hm2])
  go_loop [5, 6] (fun s x => ∃ (j : Nat) (B : ByteArray), s = .string B ∧ x = .int .i64 ((2 ^ j / 2 : Nat) : Int) ∧ B.size + j = W ∧ Hid (bl B ++ txL a z j = txL a z W)) (fun _ x => (intOf x).toNat)
  case atStart => exact ⟨W, ⟨#[]⟩, rfl, by rw [hZ, ← H0.out], Nat.zero_add W, rfl⟩
  case round =>
    obtain ⟨j, B, rfl, rfl, hj, H⟩ := hrel
    clear H0
    cases j with
    | zero =>
      have e0 : (2 ^ 0 / 2 : Nat) = 0 := rfl
      rw [e0]
      have HB : Hid (bl B = txL a z W) := by show _ = _; have := H.out; simp only [txL, List.append_nil] at this; exact this
      clear H e0
      go_wp2_with fail
      go_ret
      exact ⟨⟨B, rfl, HB.out⟩, below_alloc _ _⟩
    | succ i =>
      have e : 2 ^ (i + 1) / 2 = 2 ^ i := by rw [Nat.pow_succ]; omega
      rw [e]
      have hb := bit_ne a i ha (by omega)
      have HB : Hid ((bits BinOp.and IntKind.i64 (a : Int) ((2 ^ i : Nat) : Int) != 0) = decide (a / 2 ^ i % 2 = 1)) := hb
      have hq := pow_bd i (by omega)
      have hT : txL a z (i + 1) = (if 2 ^ i < z then 42 else dgL (a / 2 ^ i)) :: txL a z i := rfl
      rw [hT] at H
      obtain ⟨r, hr⟩ : ∃ r, r = 2 ^ i / 2 := ⟨_, rfl⟩
      have hh : ((2 ^ i : Nat) : Int) / 2 = (r : Int) := by omega
      have hlt : r < 2 ^ i := by omega
      have HR : Hid (2 ^ i / 2 = r) := hr.symm
      clear hr
      have hbz : B.size + 1 ≤ 9223372036854775807 := by omega
      clear hb hT e
      by_cases hs : 2 ^ i < z
      · rw [if_pos hs] at H
        have HN : Hid (bl (B ++ ⟨#[42]⟩) ++ txL a z i = txL a z W) := by show _ = _; rw [bl_app, List.append_assoc]; exact H.out
        have i1 : ((2 ^ i : Nat) : Int) < (z : Int) := by omega
        have sz : (B ++ (⟨#[42]⟩ : ByteArray)).size = B.size + 1 := by rw [ByteArray.size_append]; rfl
        clear H HB
        generalize 2 ^ i = q at hh hlt hq i1 ⊢
        go_wp2_with fail
        go_round
        case rel => exact ⟨i, _, rfl, by rw [HR.out], by rw [sz]; omega, HN⟩
        case measure => simp [intOf]; omega
      · rw [if_neg hs] at H
        have i1 : ¬ ((2 ^ i : Nat) : Int) < (z : Int) := by omega
        by_cases hd : a / 2 ^ i % 2 = 1
        · have hdg : dgL (a / 2 ^ i) = 49 := by unfold dgL; rw [if_pos hd]
          rw [hdg] at H
          have HN : Hid (bl (B ++ ⟨#[49]⟩) ++ txL a z i = txL a z W) := by show _ = _; rw [bl_app, List.append_assoc]; exact H.out
          have sz : (B ++ (⟨#[49]⟩ : ByteArray)).size = B.size + 1 := by rw [ByteArray.size_append]; rfl
          have hbt : (bits BinOp.and IntKind.i64 (a : Int) ((2 ^ i : Nat) : Int) != 0) = true := by rw [HB.out]; simpa using hd
          clear H HB hdg hd
          generalize 2 ^ i = q at hh hlt hq i1 hbt ⊢
          go_wp2_with fail
          go_round
          case rel => exact ⟨i, _, rfl, by rw [HR.out], by rw [sz]; omega, HN⟩
          case measure => simp [intOf]; omega
        · have hdg : dgL (a / 2 ^ i) = 48 := by unfold dgL; rw [if_neg hd]
          rw [hdg] at H
          have HN : Hid (bl (B ++ ⟨#[48]⟩) ++ txL a z i = txL a z W) := by show _ = _; rw [bl_app, List.append_assoc]; exact H.out
          have sz : (B ++ (⟨#[48]⟩ : ByteArray)).size = B.size + 1 := by rw [ByteArray.size_append]; rfl
          have hbt : (bits BinOp.and IntKind.i64 (a : Int) ((2 ^ i : Nat) : Int) != 0) = false := by rw [HB.out]; simpa using hd
          clear H HB hdg hd
          generalize 2 ^ i = q at hh hlt hq i1 hbt ⊢
          go_wp2_with fail
          go_round
          case rel => exact ⟨i, _, rfl, by rw [HR.out], by rw [sz]; omega, HN⟩
          case measure => simp [intOf]; omega
end Go.Proofs.YtgkiknfpcbcnnaaGreat
namespace Go.Proofs.YtgkiknfpcbcnnaaGreat
open Go.RowKit
set_option maxRecDepth 20000
def SPost (M : List (List UInt8)) (B : Nat) (e : Ending) (w' : World) : Prop := ∃ (v : Value) (T : List ByteArray), e = .returned v ∧ StrRow w' B v T ∧ T.map bl = M
theorem strs_one (s : ByteArray) : ∀ u ∈ [Value.string s], u.oneCell' = true := by
  intro u hu; simp only [List.mem_singleton] at hu; subst hu; rfl
theorem StrRow.snoc {w : World} {B : Nat} {v : Value} {L : List ByteArray} {s : ByteArray} (h : w.ownsRow B 9 1 v (L.length + 1) (L.map Value.string ++ [.string s])) : StrRow w B v (L ++ [s]) := by
  unfold StrRow; rw [List.length_append, List.map_append]; exact h
set_option maxHeartbeats 1000000 in
theorem writeBlocks_any (k : Int) (L : List (Nat × Nat)) (ao : Option Addr) (cap C : Nat) (w : World) (hr : BRow w C (.slice ao L.length cap) L) (hl : L.length ≤ 65536) (hb : ∀ b ∈ L, b.1 ≤ 65535) :
    Calls Tryz.prog 109 #[.slice ao L.length cap, .int .i64 k] w fun e w' => SPost (L.map fun b => txL b.1 b.2 (wOf k)) w.heap.size e w' ∧ Below w.heap.size w w' := by
  obtain ⟨i0, hi, hz0, hz1, hz2⟩ := info_parts infoStr
  have HB : Hid (∀ b ∈ L, b.1 ≤ 65535) := hb
  clear hb
  go_enter Tryz.func109, Tryz.ntmps109
  go_wp2_with fail
  go_loopw [5, 10] (fun v x wr => ∃ (j : Nat) (T : List ByteArray), x = .int .i64 j ∧ j ≤ L.length ∧ StrRow wr w.heap.size v T ∧ Hid (T.map bl = (L.take j).map fun b => txL b.1 b.2 (wOf k)) ∧ Below w.heap.size w wr) (fun _ x _ => L.length - (intOf x).toNat)
  case atStart => exact ⟨0, [], rfl, Nat.zero_le _, StrRow.nil _ _, rfl, Below.refl _ _⟩
  case round =>
    obtain ⟨j, T, rfl, hj, hrow, HT, hbel⟩ := hrel
    obtain ⟨oo, oc, rfl⟩ := ownsRow_shape hrow
    have hz := hbel.size
    have hTl : T.length ≤ 65536 := by have := congrArg List.length HT.out; rw [List.length_map, List.length_map, List.length_take] at this; omega
    by_cases hlt : j < L.length
    · obtain ⟨g1, rfl, _, gz, hcell⟩ := (hr.below hbel).get (by omega)
      obtain ⟨d0, d1⟩ := hcell j hlt
      have hb1 := HB.out L[j] (List.getElem_mem hlt)
      have htk : Hid ((L.take (j + 1)).map (fun b => txL b.1 b.2 (wOf k)) = (L.take j).map (fun b => txL b.1 b.2 (wOf k)) ++ [txL L[j].1 L[j].2 (wOf k)]) := by
        show _ = _
        rw [List.take_add_one, List.getElem?_eq_getElem hlt, List.map_append]; rfl
      clear hcell HB hr
      generalize L[j] = b at *
      obtain ⟨ba, bz⟩ := b
      simp only [] at d0 d1 hb1 htk
      go_wp2_with fail
      refine (writeBlock_any k ba bz _ hb1).mono ?_
      rintro e w1 ⟨⟨S, rfl, hS⟩, hb2⟩
      have hw1 := below_first hb2
      have hz1' := hw1.size
      have hrow1 := hrow.below hw1
      go_wp2_with (at_builtin; refine wpList_append_own _ rfl _ _ 117 rfl w.heap.size 9 i0 _ 1 16 Tryz.underlying117 hi hz0 hz1 hz2 rfl (by decide) _ _ _ rfl (hrow1.alloc _) ⟨w1.heap.size, 0, none⟩ 1 1 [.string S] rfl rfl (World.news_of_block (heap_alloc_new w1 _)) (strs_one _) (by unfold maxLen; omega) (by omega) (by simp; omega) ?_; intro v' w4 hown hgrow _)
      have HN : Hid ((T ++ [S]).map bl = (L.take (j + 1)).map fun b => txL b.1 b.2 (wOf k)) := by
        show _ = _
        rw [htk.out, List.map_append, HT.out, List.map_cons, List.map_nil, hS]
      have hB4 : Below w.heap.size w w4 := (((hbel.trans (hw1.mono hz))).alloc (by omega) _).grown hgrow (by simp; omega) (fun k hk => (World.ownsRow.lt hrow1 k hk).1)
      go_roundw
      case rel => exact ⟨j + 1, T ++ [S], by go_num, by omega, StrRow.snoc hown, HN, hB4⟩
      case measure => simp [intOf]; omega
    · obtain rfl : j = L.length := by omega
      have HF : Hid (T.map bl = L.map fun b => txL b.1 b.2 (wOf k)) := by show _ = _; rw [HT.out, List.take_length]
      clear HT hr HB
      go_wp2_with fail
      go_ret
      exact ⟨⟨_, T, rfl, hrow, HF.out⟩, hbel⟩
structure LstAt (w : World) (B : Nat) (v : Value) (qs : List (Value × List ByteArray)) : Prop where
  row : w.ownsRow B 117 1 v qs.length (qs.map Prod.fst)
  each : ∀ q ∈ qs, StrRow w B q.1 q.2
theorem LstAt.nil (w : World) (B : Nat) : LstAt w B (.slice none 0 0) [] := ⟨World.ownsRow_nil _ _ _ _, by simp⟩
theorem LstAt.below {w w' : World} {B : Nat} {v : Value} {qs : List (Value × List ByteArray)} (h : LstAt w B v qs) (hb : Below w.heap.size w w') : LstAt w' B v qs :=
  ⟨ownsRow_below h.row hb, fun q hq => (h.each q hq).below hb⟩
theorem LstAt.base {w : World} {B B' : Nat} {v : Value} {qs : List (Value × List ByteArray)} (h : LstAt w B v qs) (hb : B' ≤ B) : LstAt w B' v qs :=
  ⟨ownsRow_base h.row hb, fun q hq => (h.each q hq).base hb⟩
theorem LstAt.snoc {w w1 : World} {B : Nat} {v v' tv : Value} {qs : List (Value × List ByteArray)} {T : List ByteArray} (h : LstAt w B v qs) (ht : StrRow w B tv T) (hg : w.grownBy w1 v.ownBlock) (hown : w1.ownsRow B 117 1 v' (qs.length + 1) (qs.map Prod.fst ++ [tv])) : LstAt w1 B v' (qs ++ [(tv, T)]) := by
  refine ⟨?_, ?_⟩
  · rw [List.length_append, List.map_append]; exact hown
  · intro q hq
    rw [List.mem_append, List.mem_singleton] at hq
    rcases hq with hq | rfl
    · exact World.ownsRow.kept (h.each q hq) hg (owns_apart (h.each q hq) h.row (by decide))
    · exact World.ownsRow.kept ht hg (owns_apart ht h.row (by decide))
theorem infoStrs : (Tryz.prog.info? 117).map (fun i => (i.zero, i.size, i.bytes)) = some (some (.slice none 0 0), 1, 24) := by kernel_rfl
theorem slice_one (a : Option Addr) (n c : Nat) : ∀ u ∈ [Value.slice a n c], u.oneCell' = true := by
  intro u hu; simp only [List.mem_singleton] at hu; subst hu; rfl
def LPost (ps : List Pt) (B : Nat) (e : Ending) (w' : World) : Prop := ∃ (v : Value) (qs : List (Value × List ByteArray)), e = .returned v ∧ LstAt w' B v qs ∧ qs.map (fun q => q.2.map bl) = (List.range 5).map fun i : Nat => blkS ((i : Int) + 1) ps
set_option maxHeartbeats 2000000 in
theorem fieldLists_any (ps : List Pt) (ao : Option Addr) (cap : Nat) (w : World) (l5 : ps.length ≤ 5) (hP : ∀ j (h : j < ps.length), isP ps[j] = true) (ha : PartsIn w ao ps) :
    Calls Tryz.prog 87 #[.agg #[.slice ao ps.length cap]] w fun e w' => LPost ps w.heap.size e w' ∧ Below w.heap.size w w' := by
  obtain ⟨i0, hi, hz0, hz1, hz2⟩ := info_parts infoStrs
  have hmem : ∀ p ∈ ps, isP p = true := fun p hp => by obtain ⟨j, hj, rfl⟩ := List.getElem_of_mem hp; exact hP j hj
  have HW : Hid (∀ (k : Int) (o : Option Addr) (c C : Nat) (w : World), BRow w C (.slice o (blkN k ps).length c) (blkN k ps) → Calls Tryz.prog 109 #[.slice o (blkN k ps).length c, .int .i64 k] w fun e w' => SPost (blkS k ps) w.heap.size e w' ∧ Below w.heap.size w w') := fun k o c C w h => by
    have hlen : (blkN k ps).length ≤ 65536 := by rw [blkN_len k ps hmem]; have h1 := blkS_len k ps; have h2 := (pow_bd (wOf k) (wOf_bd k).2).2; omega
    have := writeBlocks_any k (blkN k ps) o c C w h hlen (blkN_bd k ps hmem)
    rw [blkN_text k ps hmem] at this
    exact this
  have HF : Hid (∀ (k : Int) (w : World), PartsIn w ao ps → Calls Tryz.prog 108 #[.agg #[.slice ao ps.length cap], .int .i64 k] w fun e w' => BPost (blkN k ps) w.heap.size e w' ∧ Below w.heap.size w w') := fun k w h => fieldBlocks_any k ps ao cap w l5 hP h
  clear hP hmem
  go_enter Tryz.func87, Tryz.ntmps87
  go_wp2_with fail
  go_loopw [3, 4] (fun v x wr => ∃ (n : Nat) (qs : List (Value × List ByteArray)), x = .int .i64 ((n : Int) + 1) ∧ n ≤ 5 ∧ LstAt wr (w.heap.size + 1) v qs ∧ Hid (qs.map (fun q => q.2.map bl) = (List.range n).map fun i : Nat => blkS ((i : Int) + 1) ps) ∧ Below (w.alloc (.cells #[.slice ao ps.length cap] 114)).heap.size (w.alloc (.cells #[.slice ao ps.length cap] 114)) wr) (fun _ x _ => 6 - (intOf x).toNat)
  case atStart => exact ⟨0, [], by simp, by omega, LstAt.nil _ _, rfl, Below.refl _ _⟩
  case round =>
    obtain ⟨n, qs, rfl, hn, hlst, HQ, hbel⟩ := hrel
    obtain ⟨oo, oc, rfl⟩ := ownsRow_shape hlst.row
    have hb0 : Below w.heap.size w wr := below_first hbel
    have hz := hb0.size
    have k0 : wr.cell? ⟨w.heap.size, 0, none⟩ = some (.slice ao ps.length cap) := (hbel.cell (by simp)).trans (by simp [go_sem])
    have hzz := hbel.size
    simp only [World.size_alloc] at hzz
    have hQl : qs.length ≤ 5 := by have := congrArg List.length HQ.out; rw [List.length_map, List.length_map, List.length_range] at this; omega
    by_cases hlt : n < 5
    · have hpw := ha.below hb0
      clear ha
      go_wp2_with fail
      refine (HF.out ((n : Int) + 1) _ hpw).mono ?_
      rintro e w1 ⟨⟨v1, rfl, hr1⟩, hb1⟩
      obtain ⟨o1, c1, rfl⟩ := ownsRow_shape hr1
      have hz1' := hb1.size
      go_wp2_with fail
      refine (HW.out ((n : Int) + 1) o1 c1 _ _ hr1).mono ?_
      rintro e w2 ⟨⟨v2, T, rfl, hr2, hT⟩, hb2⟩
      obtain ⟨o2, c2, rfl⟩ := ownsRow_shape hr2
      have hz2' := hb2.size
      have hw2 : Below wr.heap.size wr w2 := hb1.trans (hb2.mono hz1')
      have hl2 := hlst.below hw2
      have hr2' := hr2.base (B' := w.heap.size + 1) (by omega)
      go_wp2_with (at_builtin; refine wpList_append_own _ rfl _ _ 153 rfl (w.heap.size + 1) 117 i0 _ 1 24 Tryz.underlying153 hi hz0 hz1 hz2 rfl (by decide) (.slice oo qs.length oc) qs.length (qs.map Prod.fst) rfl (hl2.row.alloc _) ⟨w2.heap.size, 0, none⟩ 1 1 [.slice o2 T.length c2] rfl rfl (World.news_of_block (heap_alloc_new w2 _)) (slice_one _ _ _) (by unfold maxLen; omega) (by omega) (by simp; omega) ?_; intro v' w4 hown hgrow _)
      have hl4 := LstAt.snoc (hl2.below (below_alloc w2 _)) (hr2'.below (below_alloc w2 _)) hgrow hown
      have HN : Hid ((qs ++ [(Value.slice o2 T.length c2, T)]).map (fun q => q.2.map bl) = (List.range (n + 1)).map fun i : Nat => blkS ((i : Int) + 1) ps) := by
        show _ = _
        rw [List.map_append, HQ.out, List.range_succ, List.map_append]
        simp only [List.map_cons, List.map_nil]
        rw [hT]
      have hB4 : Below (w.alloc (.cells #[.slice ao ps.length cap] 114)).heap.size (w.alloc (.cells #[.slice ao ps.length cap] 114)) w4 := by
        have h1 := hbel.trans (hw2.mono (by simp; omega))
        exact (h1.alloc (by simp; omega) _).grown hgrow (by simp; omega) (fun k hk => by have := (hl2.row.lt k hk).1; simp; omega)
      go_roundw
      case rel => exact ⟨n + 1, _, by go_num, by omega, hl4, HN, hB4⟩
      case measure => simp [intOf]; omega
    · obtain rfl : n = 5 := by omega
      clear ha HF HW
      go_wp2_with fail
      go_ret
      exact ⟨⟨_, qs, rfl, hlst.base (by omega), HQ.out⟩, hb0⟩
end Go.Proofs.YtgkiknfpcbcnnaaGreat
namespace Go.Proofs.YtgkiknfpcbcnnaaGreat
open Go.RowKit
set_option maxRecDepth 20000
def pr : List Nat → Nat
  | [] => 1
  | a :: r => a * pr r
theorem pr_snoc (a : Nat) : ∀ l, pr (l ++ [a]) = pr l * a := by
  intro l
  induction l with
  | nil => simp [pr]
  | cons b r ih => simp only [List.cons_append, pr, ih, Nat.mul_assoc]
theorem LstAt.get {w : World} {B : Nat} {ao : Option Addr} {n c : Nat} {qs : List (Value × List ByteArray)} (h : LstAt w B (.slice ao n c) qs) (hl : 0 < qs.length) : ∃ g, ao = some ⟨g, 0, none⟩ ∧ g < w.heap.size ∧ ∀ i (hi : i < qs.length), w.cell? ⟨g, i, none⟩ = some qs[i].1 := by
  rcases h.row.2 with ⟨_, h0⟩ | ⟨g, c', cur, hv, hg, hh, _⟩
  · omega
  · simp only [Value.slice.injEq] at hv
    refine ⟨g, hv.1, lt_of_block hh, fun i hi => ?_⟩
    have c1 := h.row.cells (g := g) (by rw [hv.1]; rfl) i qs[i].1 (by rw [List.getElem?_map, List.getElem?_eq_getElem hi]; rfl)
    rw [add0, Nat.zero_add] at c1
    exact c1
set_option maxHeartbeats 800000 in
theorem countWays_any (qs : List (Value × List ByteArray)) (ao : Option Addr) (cap B : Nat) (w : World) (h : LstAt w B (.slice ao qs.length cap) qs) (h5 : qs.length ≤ 5) (hl : ∀ q ∈ qs, q.2.length ≤ 65536) (hp : ∀ j ≤ qs.length, pr ((qs.map fun q => q.2.length).take j) ≤ 4294967296) :
    Calls Tryz.prog 86 #[.slice ao qs.length cap] w fun e w' => e = .returned (.int .i64 (pr (qs.map fun q => q.2.length) : Nat)) ∧ w' = w := by
  have HP : Hid (∀ j ≤ qs.length, pr ((qs.map fun q => q.2.length).take j) ≤ 4294967296) := hp
  have HL : Hid (∀ q ∈ qs, q.2.length ≤ 65536) := hl
  clear hp hl
  go_enter Tryz.func86, Tryz.ntmps86
  go_wp2_with fail
  go_loop [3, 8] (fun p x => ∃ (j m : Nat), x = .int .i64 j ∧ p = .int .i64 m ∧ j ≤ qs.length ∧ Hid (m = pr ((qs.map fun q => q.2.length).take j))) (fun _ x => qs.length - (intOf x).toNat)
  case atStart => exact ⟨0, 1, rfl, rfl, Nat.zero_le _, rfl⟩
  case round =>
    obtain ⟨j, m, rfl, rfl, hj, H⟩ := hrel
    by_cases hlt : j < qs.length
    · obtain ⟨g, rfl, gz, hc⟩ := h.get (by omega)
      have c0 := hc j hlt
      have hm := HP.out j hj
      rw [← H.out] at hm
      have hq := HL.out qs[j] (List.getElem_mem hlt)
      have hrw := h.each qs[j] (List.getElem_mem hlt)
      have HN : Hid (m * qs[j].2.length = pr ((qs.map fun q => q.2.length).take (j + 1))) := by
        show _ = _
        rw [List.take_add_one, List.getElem?_map, List.getElem?_eq_getElem hlt]
        show _ = pr (_ ++ [qs[j].2.length])
        rw [pr_snoc, ← H.out]
      have hm2 := HP.out (j + 1) hlt
      rw [← HN.out] at hm2
      clear hc HP HL H h
      generalize qs[j] = q at *
      obtain ⟨qv, ql⟩ := q
      simp only [] at c0 hq hrw HN hm2
      obtain ⟨o1, c1, rfl⟩ := ownsRow_shape hrw
      clear hrw
      generalize ql.length = n at *
      go_wp2_with fail
      go_round
      case rel => exact ⟨j + 1, m * n, by go_num, by rw [Int.natCast_mul], by omega, HN⟩
      case measure => simp [intOf]; omega
    · have HF : Hid (m = pr (qs.map fun q => q.2.length)) := by
        show _ = _
        rw [H.out, List.take_of_length_le (by rw [List.length_map]; omega)]
      clear H HP HL h
      go_wp2_with fail
      go_ret
      exact ⟨by rw [← HF.out]; rfl, rfl⟩
def goL (C D : List ByteArray) : List ByteArray := C.flatMap fun c => D.map fun d => c ++ d
theorem goL_take (C D : List ByteArray) (i : Nat) (h : i < C.length) : goL (C.take (i + 1)) D = goL (C.take i) D ++ D.map fun d => C[i] ++ d := by
  unfold goL
  rw [List.take_add_one, List.getElem?_eq_getElem h, List.flatMap_append]
  simp
theorem goL_len (C D : List ByteArray) : (goL C D).length = C.length * D.length := by
  unfold goL
  induction C with
  | nil => simp
  | cons c C ih => rw [List.flatMap_cons, List.length_append, ih, List.length_map, List.length_cons, Nat.add_mul, Nat.one_mul, Nat.add_comm]
theorem StrRow.get {w : World} {B : Nat} {ao : Option Addr} {n c : Nat} {L : List ByteArray} (h : StrRow w B (.slice ao n c) L) (hl : 0 < L.length) : ∃ g, ao = some ⟨g, 0, none⟩ ∧ g < w.heap.size ∧ ∀ i (hi : i < L.length), w.cell? ⟨g, i, none⟩ = some (.string L[i]) := by
  obtain ⟨g, c', hv, _, hg, hc⟩ := row_some h hl
  simp only [Value.slice.injEq] at hv
  exact ⟨g, hv.1, hg, fun i hi => by have := hc i hi; rwa [Nat.zero_add] at this⟩
set_option maxHeartbeats 1600000 in
theorem goOn_any (C D : List ByteArray) (a1 a2 : Option Addr) (c1 c2 B1 B2 : Nat) (w : World) (h1 : StrRow w B1 (.slice a1 C.length c1) C) (h2 : StrRow w B2 (.slice a2 D.length c2) D) (hn : C.length * D.length ≤ 65536) (hc : C.length ≤ 65536) (hd : D.length ≤ 65536) (s1 : ∀ i (h : i < C.length), C[i].size ≤ 1000) (s2 : ∀ i (h : i < D.length), D[i].size ≤ 1000) :
    Calls Tryz.prog 90 #[.slice a1 C.length c1, .slice a2 D.length c2] w fun e w' => (∃ v, e = .returned v ∧ StrRow w' w.heap.size v (goL C D)) ∧ Below w.heap.size w w' := by
  obtain ⟨i0, hi, hz0, hz1, hz2⟩ := info_parts infoStr
  have S1 : Hid (∀ i (h : i < C.length), C[i].size ≤ 1000) := s1
  have S2 : Hid (∀ i (h : i < D.length), D[i].size ≤ 1000) := s2
  have HN : Hid (C.length * D.length ≤ 65536) := hn
  clear s1 s2 hn
  go_enter Tryz.func90, Tryz.ntmps90
  go_wp2_with fail
  go_loopw [5, 12] (fun v x wr => ∃ (i : Nat) (T : List ByteArray), x = .int .i64 i ∧ i ≤ C.length ∧ StrRow wr w.heap.size v T ∧ Hid (T = goL (C.take i) D) ∧ Below w.heap.size w wr) (fun _ x _ => C.length - (intOf x).toNat)
  case atStart => exact ⟨0, [], rfl, Nat.zero_le _, StrRow.nil _ _, rfl, Below.refl _ _⟩
  case round =>
    obtain ⟨i, T, rfl, hiC, hrow, HT, hbel⟩ := hrel
    obtain ⟨oo, oc, rfl⟩ := ownsRow_shape hrow
    by_cases hlt : i < C.length
    · obtain ⟨g1, rfl, gz1, hc1⟩ := (h1.below hbel).get (by omega)
      have k1 := hc1 i hlt
      have hs1 := S1.out i hlt
      have htk := goL_take C D i hlt
      have HK : Hid (goL (C.take (i + 1)) D = goL (C.take i) D ++ D.map fun d => C[i] ++ d) := htk
      have hTl : T.length + D.length ≤ 65536 := by
        have e1 : T.length = i * D.length := by rw [HT.out, goL_len, List.length_take]; congr 1; omega
        have e2 : (i + 1) * D.length ≤ C.length * D.length := Nat.mul_le_mul_right _ (by omega)
        rw [Nat.add_mul, Nat.one_mul] at e2
        have := HN.out
        omega
      clear hc1 htk h1 S1
      generalize C[i] = cu at *
      have b63 : ∀ d : ByteArray, d.size ≤ 1000 → cu.size + d.size ≤ 9223372036854775807 := fun d hd => by omega
      have HT2 : Hid (T = goL (C.take i) D ++ (D.take 0).map fun d => cu ++ d) := by show _ = _; rw [HT.out]; simp
      go_wp2_with fail
      go_loopw [5, 18] (fun v x wr2 => ∃ (j : Nat) (T2 : List ByteArray), x = .int .i64 j ∧ j ≤ D.length ∧ StrRow wr2 w.heap.size v T2 ∧ Hid (T2.length = T.length + j) ∧ Hid (T2 = goL (C.take i) D ++ (D.take j).map fun d => cu ++ d) ∧ Below w.heap.size w wr2) (fun _ x _ => D.length - (intOf x).toNat)
      case atStart => exact ⟨0, T, rfl, Nat.zero_le _, hrow, rfl, HT2, hbel⟩
      case round =>
        clear hrow HT HT2 hbel k1 gz1
        obtain ⟨j, T2, rfl, hjD, hrow, HL2, HT2, hbel⟩ := hrel
        obtain ⟨oo2, oc2, rfl⟩ := ownsRow_shape hrow
        have hz := hbel.size
        by_cases hlt2 : j < D.length
        · obtain ⟨g2, rfl, gz2, hc2⟩ := (h2.below hbel).get (by omega)
          have k2 := hc2 j hlt2
          have hs2 := S2.out j hlt2
          have HK2 : Hid ((D.take (j + 1)).map (fun d => cu ++ d) = (D.take j).map (fun d => cu ++ d) ++ [cu ++ D[j]]) := by
            show _ = _
            rw [List.take_add_one, List.getElem?_eq_getElem hlt2, List.map_append]; rfl
          have hl2 : T2.length ≤ 65536 := by have := HL2.out; omega
          clear hc2 h2 S2
          generalize D[j] = du at *
          have b64 := b63 du hs2
          clear b63
          go_wp2_with (at_builtin; refine wpList_append_own _ rfl _ _ 117 rfl w.heap.size 9 i0 _ 1 16 Tryz.underlying117 hi hz0 hz1 hz2 rfl (by decide) (.slice oo2 T2.length oc2) T2.length (T2.map Value.string) rfl (hrow.alloc _) ⟨wr.heap.size, 0, none⟩ 1 1 [.string (cu ++ du)] rfl rfl (World.news_of_block (heap_alloc_new wr _)) (strs_one _) (by unfold maxLen; omega) (by omega) (by simp; omega) ?_; intro v' w4 hown hgrow _)
          have HN4 : Hid (T2 ++ [cu ++ du] = goL (C.take i) D ++ (D.take (j + 1)).map fun d => cu ++ d) := by
            show _ = _
            rw [HK2.out, ← List.append_assoc, ← HT2.out]
          have HL4 : Hid ((T2 ++ [cu ++ du]).length = T.length + (j + 1)) := by show _ = _; rw [List.length_append, HL2.out]; rfl
          have hB4 : Below w.heap.size w w4 := (hbel.alloc hz _).grown hgrow (by simp; omega) (fun k hk => (World.ownsRow.lt hrow k hk).1)
          go_roundw
          case rel => exact ⟨j + 1, T2 ++ [cu ++ du], by go_num, by omega, StrRow.snoc hown, HL4, HN4, hB4⟩
          case measure => simp [intOf]; omega
        · have HF : Hid (T2 = goL (C.take (i + 1)) D) := by
            show _ = _
            have e : D.take j = D := List.take_of_length_le (by omega)
            rw [HT2.out, HK.out, e]
          clear HT2 HL2 h2 S2
          go_wp2_with fail
          go_roundw
          case rel => exact ⟨i + 1, T2, by go_num, by omega, hrow, HF, hbel⟩
          case measure => simp [intOf]; omega
    · have HF : Hid (T = goL C D) := by show _ = _; rw [HT.out, List.take_of_length_le (by omega)]
      clear HT h1 h2 S1 S2
      go_wp2_with fail
      go_ret
      exact ⟨⟨_, rfl, by rw [← HF.out]; exact hrow⟩, hbel⟩
set_option maxHeartbeats 800000 in
theorem laterBit_any (ps : List Pt) (ao : Option Addr) (cap : Nat) (w : World) (l5 : ps.length ≤ 5) (hP : ∀ j (h : j < ps.length), isP ps[j] = true) (ha : PartsIn w ao ps) :
    Calls Tryz.prog 91 #[.agg #[.slice ao ps.length cap]] w fun e w' => e = .returned (.string (eB (ps.any fun p => decide (4 ≤ p.ty)))) ∧ Below w.heap.size w w' := by
  have HP : Hid (∀ j (h : j < ps.length), isP ps[j] = true) := hP
  clear hP
  go_enter Tryz.func91, Tryz.ntmps91
  go_wp2_with fail
  go_loopw [8] (fun x wr => ∃ j : Nat, x = .int .i64 j ∧ j ≤ ps.length ∧ Below w.heap.size w wr ∧ Hid ((ps.any fun p => decide (4 ≤ p.ty)) = ((ps.drop j).any fun p => decide (4 ≤ p.ty)))) (fun x _ => ps.length - (intOf x).toNat)
  case atStart => exact ⟨0, rfl, Nat.zero_le _, below_alloc _ _, rfl⟩
  case round =>
    obtain ⟨j, rfl, hj, hbel, H⟩ := hrel
    have hz := hbel.size
    by_cases hlt : j < ps.length
    · obtain ⟨bk, off, tao, tcap, rfl, c0, c1, c2, c3, hl, ht⟩ := ha.below hbel j hlt
      have hd : ps.drop j = ps[j] :: ps.drop (j + 1) := List.drop_eq_getElem_cons hlt
      obtain ⟨t0, t1⟩ := isP_ty (HP.out j hlt)
      rw [hd, List.any_cons] at H
      clear hd HP ha ht hl
      generalize ps[j] = p at *
      obtain ⟨ty, bt, ln, ts⟩ := p
      simp only [] at c0 c1 c2 c3 t0 t1 H
      have hcase : ty = 4 ∨ ty = 5 ∨ ty ≤ 3 := by omega
      rcases hcase with rfl | rfl | h3
      · have HF : Hid ((ps.any fun p => decide (4 ≤ p.ty)) = true) := by show _ = _; rw [H.out]; rfl
        clear H
        go_wp2_with fail
        go_ret
        exact ⟨by rw [HF.out]; rfl, hbel.alloc hz _⟩
      · have HF : Hid ((ps.any fun p => decide (4 ≤ p.ty)) = true) := by show _ = _; rw [H.out]; rfl
        clear H
        go_wp2_with fail
        go_ret
        exact ⟨by rw [HF.out]; rfl, hbel.alloc hz _⟩
      · have d4 : decide (4 ≤ ty) = false := by simp; omega
        have HF : Hid ((ps.any fun p => decide (4 ≤ p.ty)) = ((ps.drop (j + 1)).any fun p => decide (4 ≤ p.ty))) := by show _ = _; rw [H.out, d4]; rfl
        have b4 : (ty == 4) = false := by simp; omega
        have b5 : (ty == 5) = false := by simp; omega
        clear H d4
        go_wp2_with fail
        go_roundw
        case rel => exact ⟨j + 1, by go_num, by omega, hbel.alloc hz _, HF⟩
        case measure => simp [intOf]; omega
    · have HF : Hid ((ps.any fun p => decide (4 ≤ p.ty)) = false) := by show _ = _; rw [H.out, List.drop_of_length_le (by omega)]; rfl
      clear H HP ha
      go_wp2_with fail
      go_ret
      exact ⟨by rw [HF.out]; rfl, hbel⟩
end Go.Proofs.YtgkiknfpcbcnnaaGreat
namespace Go.Proofs.YtgkiknfpcbcnnaaGreat
open Go.RowKit
set_option maxRecDepth 20000
def goB (C D : List (List UInt8)) : List (List UInt8) := C.flatMap fun c => D.map fun d => c ++ d
theorem goL_bl (D : List ByteArray) : ∀ C : List ByteArray, (goL C D).map bl = goB (C.map bl) (D.map bl) := by
  intro C
  unfold goL goB
  induction C with
  | nil => rfl
  | cons c C ih =>
    rw [List.flatMap_cons, List.map_append, ih, List.map_cons, List.flatMap_cons, List.map_map, List.map_map]
    have e : D.map (bl ∘ fun d => c ++ d) = D.map ((fun d => bl c ++ d) ∘ bl) := List.map_congr_left fun d _ => bl_app c d
    rw [e]
def goA (Ls : List (List ByteArray)) : List ByteArray := Ls.foldl goL [⟨#[]⟩]
theorem foldl_bl : ∀ (Ls : List (List ByteArray)) (C : List ByteArray), (Ls.foldl goL C).map bl = (Ls.map fun l => l.map bl).foldl goB (C.map bl) := by
  intro Ls
  induction Ls with
  | nil => intro C; rfl
  | cons l Ls ih => intro C; simp only [List.foldl_cons, List.map_cons]; rw [ih, goL_bl]
theorem goA_bl (Ls : List (List ByteArray)) : (goA Ls).map bl = (Ls.map fun l => l.map bl).foldl goB [[]] := foldl_bl Ls _
theorem goA_snoc (Ls : List (List ByteArray)) (l : List ByteArray) : goA (Ls ++ [l]) = goL (goA Ls) l := by
  unfold goA; rw [List.foldl_append]; rfl
theorem goA_take (Ls : List (List ByteArray)) (j : Nat) (h : j < Ls.length) : goA (Ls.take (j + 1)) = goL (goA (Ls.take j)) Ls[j] := by
  rw [List.take_add_one, List.getElem?_eq_getElem h]
  exact goA_snoc _ _
theorem foldl_len : ∀ (Ls : List (List ByteArray)) (C : List ByteArray), (Ls.foldl goL C).length = C.length * pr (Ls.map List.length) := by
  intro Ls
  induction Ls with
  | nil => intro C; simp [pr]
  | cons l Ls ih => intro C; simp only [List.foldl_cons, List.map_cons, pr]; rw [ih, goL_len, Nat.mul_assoc]
theorem goA_len (Ls : List (List ByteArray)) : (goA Ls).length = pr (Ls.map List.length) := by
  unfold goA; rw [foldl_len]; simp
theorem goL_size {C D : List ByteArray} {m n : Nat} (h1 : ∀ c ∈ C, c.size ≤ m) (h2 : ∀ d ∈ D, d.size ≤ n) : ∀ x ∈ goL C D, x.size ≤ m + n := by
  intro x hx
  unfold goL at hx
  rw [List.mem_flatMap] at hx
  obtain ⟨c, hc, hx⟩ := hx
  rw [List.mem_map] at hx
  obtain ⟨d, hd, rfl⟩ := hx
  rw [ByteArray.size_append]
  have := h1 c hc
  have := h2 d hd
  omega
theorem foldl_size : ∀ (Ls : List (List ByteArray)) (C : List ByteArray) (m : Nat), (∀ c ∈ C, c.size ≤ m) → (∀ l ∈ Ls, ∀ d ∈ l, d.size ≤ 16) → ∀ x ∈ Ls.foldl goL C, x.size ≤ m + 16 * Ls.length := by
  intro Ls
  induction Ls with
  | nil => intro C m h _ x hx; have := h x hx; simp; omega
  | cons l Ls ih =>
    intro C m h1 h2 x hx
    simp only [List.foldl_cons] at hx
    have := ih (goL C l) (m + 16) (goL_size h1 (h2 l (by simp))) (fun l' hl' => h2 l' (by simp [hl'])) x hx
    rw [List.length_cons]
    omega
theorem goA_size (Ls : List (List ByteArray)) (h : ∀ l ∈ Ls, ∀ d ∈ l, d.size ≤ 16) : ∀ x ∈ goA Ls, x.size ≤ 16 * Ls.length := by
  intro x hx
  have := foldl_size Ls [⟨#[]⟩] 0 (fun c hc => by simp only [List.mem_singleton] at hc; rw [hc]; exact Nat.le_refl _) h x hx
  omega
theorem pr_app : ∀ l r, pr (l ++ r) = pr l * pr r := by
  intro l r
  induction l with
  | nil => simp [pr]
  | cons a l ih => simp only [List.cons_append, pr, ih, Nat.mul_assoc]
theorem pr_take (l : List Nat) (j : Nat) (h : 0 < pr l) : pr (l.take j) ≤ pr l := by
  have e : pr l = pr (l.take j) * pr (l.drop j) := by rw [← pr_app, List.take_append_drop]
  rw [e] at h ⊢
  exact Nat.le_mul_of_pos_right _ (Nat.pos_of_mul_pos_left h)
theorem cubS_goB (ps : List Pt) : cubS ps = goB (((List.range 5).map fun i : Nat => blkS ((i : Int) + 1) ps).foldl goB [[]]) [[endC ps]] := by
  have er : (List.range 5).map (fun i : Nat => blkS ((i : Int) + 1) ps) = [blkS 1 ps, blkS 2 ps, blkS 3 ps, blkS 4 ps, blkS 5 ps] := rfl
  rw [er]
  obtain ⟨d1, h1⟩ := blkS_one 1 (.inl rfl) ps
  obtain ⟨d2, h2⟩ := blkS_one 2 (.inr rfl) ps
  unfold cubS
  rw [h1, h2]
  generalize blkS 3 ps = A
  generalize blkS 4 ps = B
  generalize blkS 5 ps = C
  generalize [endC ps] = z
  simp only [List.foldl_cons, List.foldl_nil, goB, List.flatMap_cons, List.flatMap_nil, List.map_cons, List.map_nil, List.append_nil, List.nil_append, List.headD_cons]
  simp [List.flatMap_assoc, List.map_eq_flatMap]
theorem lens5 {ps : List Pt} {qs : List (Value × List ByteArray)} (h : qs.map (fun q => q.2.map bl) = (List.range 5).map fun i : Nat => blkS ((i : Int) + 1) ps) : qs.map (fun q => q.2.length) = [1, 1, (blkS 3 ps).length, (blkS 4 ps).length, (blkS 5 ps).length] := by
  have e : qs.map (fun q => q.2.length) = (qs.map (fun q => q.2.map bl)).map List.length := by
    rw [List.map_map]
    apply List.map_congr_left
    intro q _
    simp
  have er : (List.range 5).map (fun i : Nat => blkS ((i : Int) + 1) ps) = [blkS 1 ps, blkS 2 ps, blkS 3 ps, blkS 4 ps, blkS 5 ps] := rfl
  obtain ⟨d1, h1⟩ := blkS_one 1 (.inl rfl) ps
  obtain ⟨d2, h2⟩ := blkS_one 2 (.inr rfl) ps
  rw [e, h, er, h1, h2]
  rfl
theorem pr_nS {ps : List Pt} {qs : List (Value × List ByteArray)} (h : qs.map (fun q => q.2.map bl) = (List.range 5).map fun i : Nat => blkS ((i : Int) + 1) ps) : pr (qs.map fun q => q.2.length) = nS ps := by
  rw [lens5 h]
  unfold nS
  simp only [pr, Nat.one_mul, Nat.mul_one, Nat.mul_assoc]
theorem pr_bd {ps : List Pt} {qs : List (Value × List ByteArray)} (h : qs.map (fun q => q.2.map bl) = (List.range 5).map fun i : Nat => blkS ((i : Int) + 1) ps) : ∀ j, pr ((qs.map fun q => q.2.length).take j) ≤ 4294967296 := by
  rw [lens5 h]
  obtain ⟨a, b, c⟩ := lens ps
  generalize (blkS 3 ps).length = x at *
  generalize (blkS 4 ps).length = y at *
  generalize (blkS 5 ps).length = z at *
  obtain ⟨m1, m2⟩ := mul_bd a b c
  intro j
  match j with
  | 0 => simp [pr]
  | 1 => simp [pr]
  | 2 => simp [pr]
  | 3 => simp [pr]; omega
  | 4 => simp [pr]; omega
  | n + 5 => simp [pr]; rw [← Nat.mul_assoc]; exact m2
theorem qs_len {ps : List Pt} {qs : List (Value × List ByteArray)} (h : qs.map (fun q => q.2.map bl) = (List.range 5).map fun i : Nat => blkS ((i : Int) + 1) ps) : qs.length = 5 := by
  have := congrArg List.length h
  simpa using this
theorem qs_each {ps : List Pt} {qs : List (Value × List ByteArray)} (hp : ∀ p ∈ ps, isP p = true) (h : qs.map (fun q => q.2.map bl) = (List.range 5).map fun i : Nat => blkS ((i : Int) + 1) ps) : ∀ q ∈ qs, q.2.length ≤ 65536 ∧ ∀ d ∈ q.2, d.size ≤ 16 := by
  intro q hq
  have hm : q.2.map bl ∈ qs.map (fun q => q.2.map bl) := List.mem_map_of_mem (f := fun q : Value × List ByteArray => q.2.map bl) hq
  rw [h, List.mem_map] at hm
  obtain ⟨i, _, he⟩ := hm
  have hw := (wOf_bd ((i : Int) + 1)).2
  constructor
  · have h1 := blkS_len ((i : Int) + 1) ps
    rw [he, List.length_map] at h1
    have := (pow_bd _ hw).2
    omega
  · intro d hd
    have : bl d ∈ blkS ((i : Int) + 1) ps := by rw [he]; exact List.mem_map_of_mem hd
    have := blkS_w ((i : Int) + 1) ps hp _ this
    rw [bl_len] at this
    omega
theorem cubS_none {ps : List Pt} (h : nS ps = 0) : cubS ps = [] := by rw [cubS_range, h]; rfl
end Go.Proofs.YtgkiknfpcbcnnaaGreat
namespace Go.Proofs.YtgkiknfpcbcnnaaGreat
open Go.RowKit
set_option maxRecDepth 20000
set_option maxHeartbeats 1000000 in
theorem flowCount_any (s : ByteArray) (w : World) (hs : s.size ≤ 140737488351232) :
    Calls Tryz.prog 65 #[.string s] w fun e w' => e = .returned (.tuple #[.int .i64 (ctC s), .int .i64 (eS s)]) ∧ Below w.heap.size w w' := by
  obtain ⟨d5, dts⟩ := dS_small s
  have HP : Hid (∀ j (h : j < (dS s).length), isP (dS s)[j] = true) := isP_dS s
  unfold ctC
  cases h1 : (decS s).isSome
  · simp only [Bool.false_eq_true, if_false]
    have e1 := eS_no h1
    clear h1
    rw [e1]
    go_enter Tryz.func65, Tryz.ntmps65
    go_wp2_with fail
    refine (flow2 s _ hs).mono ?_
    rintro e w1 ⟨hb1, ao, cap, qs, rfl, hq, hr⟩
    rw [e1]
    go_wp2_with fail
    go_ret2
    exact ⟨rfl, hb1.alloc hb1.size _⟩
  · simp only [if_true]
    have e1 := eS_yes h1
    clear h1
    rw [e1]
    go_enter Tryz.func65, Tryz.ntmps65
    go_wp2_with fail
    refine (flow2 s _ hs).mono ?_
    rintro e w1 ⟨hb1, ao, cap, qs, rfl, hq, hr⟩
    rw [e1]
    have hp1 := hr.reads2 hq rfl dts
    clear hq hr dts qs
    have z1 := hb1.size
    have hpA := hp1.below (below_alloc w1 (.cells #[.slice ao (dS s).length cap] 114))
    go_wp2_with fail
    refine (fieldLists_any (dS s) ao cap _ d5 HP.out hpA).mono ?_
    rintro e w2 ⟨⟨v, qs, rfl, hl, hq⟩, hb2⟩
    obtain ⟨o, c, rfl⟩ := ownsRow_shape hl.row
    have hB : Below w.heap.size w w2 := hb1.trans ((below_first hb2).mono z1)
    have HC : Hid (Calls Tryz.prog 86 #[.slice o qs.length c] w2 fun e w' => e = .returned (.int .i64 ((nS (dS s) : Nat) : Int)) ∧ w' = w2) := by
      have := countWays_any qs o c _ w2 hl (by rw [qs_len hq]; omega) (fun q hh => (qs_each (mem_dS s) hq q hh).1) (fun j _ => pr_bd hq j)
      rw [pr_nS hq] at this
      exact this
    clear hl hq hp1 hpA HP
    go_wp2_with fail
    refine HC.out.mono ?_
    rintro e w3 ⟨rfl, rfl⟩
    go_wp2_with fail
    go_ret2
    exact ⟨rfl, hB⟩
set_option maxHeartbeats 4000000 in
theorem flowCubes_any (s : ByteArray) (w : World) (hs : s.size ≤ 140737488351232) :
    Calls Tryz.prog 68 #[.string s] w fun e w' => CubPost s w.heap.size e w' ∧ Below w.heap.size w w' := by
  obtain ⟨d5, dts⟩ := dS_small s
  have HP : Hid (∀ j (h : j < (dS s).length), isP (dS s)[j] = true) := isP_dS s
  cases h1 : (decS s).isSome
  · have HE : Hid (cbE s = 1) := by show cbE s = 1; unfold cbE; rw [h1]; rfl
    have HL : Hid (cbL s = []) := by show cbL s = []; unfold cbL; rw [h1]; rfl
    have e1 := eS_no h1
    clear h1
    go_enter Tryz.func68, Tryz.ntmps68
    go_wp2_with fail
    refine (flow2 s _ hs).mono ?_
    rintro e w1 ⟨hb1, ao, cap, qs, rfl, hq, hr⟩
    rw [e1]
    go_wp2_with fail
    go_ret2
    exact ⟨CubPost.mk (L := []) HE (StrRow.nil _ _) HL.out.symm, hb1.alloc hb1.size _⟩
  · have e1 := eS_yes h1
    have HE0 : Hid (cbE s = if nS (dS s) ≤ 256 then 0 else 4) := by show cbE s = _; unfold cbE; rw [h1]; rfl
    have HL0 : Hid (cbL s = if nS (dS s) ≤ 256 then cubS (dS s) else []) := by show cbL s = _; unfold cbL; rw [h1]; simp
    clear h1
    go_enter Tryz.func68, Tryz.ntmps68
    go_wp2_with fail
    refine (flow2 s _ hs).mono ?_
    rintro e w1 ⟨hb1, ao, cap, qs0, rfl, hq0, hr⟩
    rw [e1]
    have hp1 := hr.reads2 hq0 rfl dts
    clear hq0 hr dts qs0 e1
    have z1 := hb1.size
    have hpA := hp1.below (below_alloc w1 (.cells #[.slice ao (dS s).length cap] 114))
    go_wp2_with fail
    refine (fieldLists_any (dS s) ao cap _ d5 HP.out hpA).mono ?_
    rintro e w2 ⟨⟨v, qs, rfl, hl, hq⟩, hb2⟩
    obtain ⟨o, c, rfl⟩ := ownsRow_shape hl.row
    have hw2 := below_first hb2
    have hB : Below w.heap.size w w2 := hb1.trans (hw2.mono z1)
    have k0 : w2.cell? ⟨w1.heap.size, 0, none⟩ = some (.slice ao (dS s).length cap) := (hb2.cell (by simp)).trans (by simp [go_sem])
    have z2 := hb2.size
    simp only [World.size_alloc] at z2
    have hp2 := hp1.below hw2
    have q5 : Hid (qs.length = 5) := qs_len hq
    have q5' : qs.length ≤ 5 := Nat.le_of_eq q5.out
    have hbig := pr_bd hq 5
    have hpr := pr_nS hq
    have h0 : nS (dS s) ≤ 4294967296 := by rw [← hpr]; rw [List.take_of_length_le (by rw [List.length_map]; omega)] at hbig; exact hbig
    have HC : Hid (Calls Tryz.prog 86 #[.slice o qs.length c] w2 fun e w' => e = .returned (.int .i64 ((nS (dS s) : Nat) : Int)) ∧ w' = w2) := by
      have := countWays_any qs o c _ w2 hl (by omega) (fun q hh => (qs_each (mem_dS s) hq q hh).1) (fun j _ => pr_bd hq j)
      rw [hpr] at this
      exact this
    clear hbig hp1 hpA hb2 hw2
    by_cases h256 : nS (dS s) ≤ 256
    · have HE : Hid (cbE s = 0) := by show _ = _; rw [HE0.out, if_pos h256]
      have HL : Hid (cbL s = cubS (dS s)) := by show _ = _; rw [HL0.out, if_pos h256]
      by_cases hn0 : nS (dS s) = 0
      · have HL1 : Hid (cbL s = []) := by show _ = _; rw [HL.out, cubS_none hn0]
        rw [hn0] at HC
        clear hn0 h256 h0 hpr HE0 HL0 HL hl hq q5 HP hp2
        go_wp2_with fail
        refine HC.out.mono ?_
        rintro e w3 ⟨rfl, rfl⟩
        go_wp2_with fail
        go_ret2
        exact ⟨CubPost.mk (L := []) HE (StrRow.nil _ _) HL1.out.symm, hB⟩
      · have HM : Hid (∀ j, (goA ((qs.map Prod.snd).take j)).length ≤ 256) := by
          intro j
          rw [goA_len, List.map_take]
          have e : (qs.map Prod.snd).map List.length = qs.map fun q => q.2.length := by rw [List.map_map]; rfl
          rw [e]
          have := pr_take (qs.map fun q => q.2.length) j (by rw [hpr]; omega)
          omega
        have hEach := qs_each (mem_dS s) hq
        have HZ : Hid (∀ j, ∀ x ∈ goA ((qs.map Prod.snd).take j), x.size ≤ 1000) := by
          intro j x hx
          have := goA_size ((qs.map Prod.snd).take j) (fun l hl d hd => by
            have hl2 := List.mem_of_mem_take hl
            rw [List.mem_map] at hl2
            obtain ⟨q, hq1, rfl⟩ := hl2
            exact (hEach q hq1).2 d hd) x hx
          rw [List.length_take, List.length_map, q5.out] at this
          omega
        have HD : Hid (∀ q ∈ qs, q.2.length ≤ 65536 ∧ ∀ d ∈ q.2, d.size ≤ 16) := hEach
        have HB : Hid ((goL (goA (qs.map Prod.snd)) [eB ((dS s).any fun p => decide (4 ≤ p.ty))]).map bl = cbL s) := by
          show _ = _
          rw [goL_bl, goA_bl, List.map_map, HL.out, cubS_goB, ← hq, List.map_cons, List.map_nil, bl_eB]
          rfl
        have hn : (nS (dS s) : Int) ≤ 256 := by omega
        have hn1 : ((nS (dS s) : Int) == 0) = false := by simp; omega
        clear hEach HE0 HL0 HL hpr hq h0 hn0 h256
        generalize nS (dS s) = N at *
        go_wp2_with fail
        refine HC.out.mono ?_
        rintro e w3 ⟨rfl, rfl⟩
        go_wp2_with fail
        have z2w := hB.size
        go_loopw [8, 30] (fun v x wr => ∃ (j : Nat) (T : List ByteArray), x = .int .i64 j ∧ j ≤ qs.length ∧ StrRow wr w.heap.size v T ∧ Hid (T = goA ((qs.map Prod.snd).take j)) ∧ Below w3.heap.size w3 wr) (fun _ x _ => qs.length - (intOf x).toNat)
        case atStart => exact ⟨0, [⟨#[]⟩], rfl, Nat.zero_le _, StrRow.one _ _ _ z2w, rfl, below_alloc _ _⟩
        case round =>
          obtain ⟨j, T, rfl, hj, hrow, HT, hbel⟩ := hrel
          obtain ⟨oo, oc, rfl⟩ := ownsRow_shape hrow
          have hz := hbel.size
          have hl3 := hl.below hbel
          have hTl : T.length ≤ 256 := by rw [HT.out]; exact HM.out j
          have s1 : ∀ i (h : i < T.length), T[i].size ≤ 1000 := fun i h => HZ.out j _ (by rw [← HT.out]; exact List.getElem_mem h)
          have S1 : Hid (∀ i (h : i < T.length), T[i].size ≤ 1000) := s1
          clear s1
          by_cases hlt : j < qs.length
          · obtain ⟨g, rfl, gz, hc⟩ := hl3.get (by omega)
            have c0 := hc j hlt
            have hea := hl3.each qs[j] (List.getElem_mem hlt)
            obtain ⟨m1, m2⟩ := HD.out qs[j] (List.getElem_mem hlt)
            have hlt' : j < (qs.map Prod.snd).length := by rw [List.length_map]; exact hlt
            have HN : Hid (goA ((qs.map Prod.snd).take (j + 1)) = goL T qs[j].2) := by
              show _ = _
              rw [goA_take _ j hlt', ← HT.out, List.getElem_map]
            have hTn : T.length * qs[j].2.length ≤ 65536 := by
              have := HM.out (j + 1)
              rw [HN.out, goL_len] at this
              omega
            have S2 : Hid (∀ i (h : i < qs[j].2.length), qs[j].2[i].size ≤ 1000) := fun i h => by have := m2 _ (List.getElem_mem h); omega
            clear hc HD HM HZ hl hl3 HB HC HP m2 hlt' HT
            generalize qs[j] = q at *
            obtain ⟨qv, ql⟩ := q
            simp only [] at c0 hea m1 HN hTn S2
            obtain ⟨o2, c2, rfl⟩ := ownsRow_shape hea
            have HG : Hid (Calls Tryz.prog 90 #[.slice oo T.length oc, .slice o2 ql.length c2] wr fun e w' => (∃ v, e = .returned v ∧ StrRow w' wr.heap.size v (goL T ql)) ∧ Below wr.heap.size wr w') := goOn_any T ql oo o2 oc c2 _ _ wr hrow hea hTn (by omega) m1 S1.out S2.out
            clear hTn S1 S2 hea
            go_wp2_with fail
            refine HG.out.mono ?_
            rintro e w4 ⟨⟨v4, rfl, hr4⟩, hb4⟩
            go_wp2_with fail
            go_roundw
            case rel => exact ⟨j + 1, _, by go_num, by omega, hr4.base (by omega), HN.out.symm, hbel.trans (hb4.mono hz)⟩
            case measure => simp [intOf]; omega
          · have HF : Hid (T = goA (qs.map Prod.snd)) := by show _ = _; rw [HT.out, List.take_of_length_le (by rw [List.length_map]; omega)]
            have k1 := (hbel.cell (p := ⟨w1.heap.size, 0, none⟩) (by show w1.heap.size < w3.heap.size; omega)).trans k0
            have hp3 := hp2.below hbel
            have HLB : Hid (Calls Tryz.prog 91 #[.agg #[.slice ao (dS s).length cap]] wr fun e w' => e = .returned (.string (eB ((dS s).any fun p => decide (4 ≤ p.ty)))) ∧ Below wr.heap.size wr w') := laterBit_any (dS s) ao cap wr d5 HP.out hp3
            clear HT HD HM HZ hl hl3 HC HP hp2 hp3 k0
            generalize hEB : eB ((dS s).any fun p => decide (4 ≤ p.ty)) = E at *
            have hEs : E.size ≤ 1000 := by rw [← hEB, eB_size]; omega
            clear hEB
            go_wp2_with fail
            refine HLB.out.mono ?_
            rintro e w4 ⟨rfl, hb4⟩
            have z4 := hb4.size
            have hr4 := (hrow.below hb4).below (below_alloc w4 (.cells #[.string E] 9))
            have hE4 := StrRow.one w4 w.heap.size E (by omega)
            have HG : Hid (Calls Tryz.prog 90 #[.slice oo T.length oc, .slice (some ⟨w4.heap.size, 0, none⟩) 1 1] (w4.alloc (.cells #[.string E] 9)) fun e w' => (∃ v, e = .returned v ∧ StrRow w' (w4.alloc (.cells #[.string E] 9)).heap.size v (goL T [E])) ∧ Below (w4.alloc (.cells #[.string E] 9)).heap.size (w4.alloc (.cells #[.string E] 9)) w') := goOn_any T [E] oo _ oc 1 _ _ _ hr4 hE4 (by simp; omega) (by omega) (by simp) S1.out (fun i h => by
              have hi0 : i = 0 := by simp at h; exact h
              subst hi0
              exact hEs)
            clear S1 hE4 hr4
            go_wp2_with fail
            refine HG.out.mono ?_
            rintro e w5 ⟨⟨v5, rfl, hr5⟩, hb5⟩
            have hB5 : Below w.heap.size w w5 := hB.trans ((hbel.trans ((hb4.trans ((below_first hb5).mono z4)).mono hz)).mono z2w)
            go_wp2_with fail
            go_ret2
            refine ⟨CubPost.mk HE (hr5.base (by simp; omega)) ?_, hB5⟩
            rw [HF.out]
            exact HB.out
    · have HE : Hid (cbE s = 4) := by show _ = _; rw [HE0.out, if_neg h256]
      have HL : Hid (cbL s = []) := by show _ = _; rw [HL0.out, if_neg h256]
      have hn : (256 : Int) < (nS (dS s) : Int) := by omega
      clear h256 hpr HE0 HL0 hl hq q5 HP hp2
      generalize nS (dS s) = N at *
      go_wp2_with fail
      refine HC.out.mono ?_
      rintro e w3 ⟨rfl, rfl⟩
      go_wp2_with fail
      go_ret2
      exact ⟨CubPost.mk (L := []) HE (StrRow.nil _ _) HL.out.symm, hB⟩
end Go.Proofs.YtgkiknfpcbcnnaaGreat
