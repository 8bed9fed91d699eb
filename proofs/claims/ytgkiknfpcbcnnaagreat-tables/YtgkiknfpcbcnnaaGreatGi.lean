import Derived.Test.YtgkiknfpcbcnnaaGreatGb
namespace Go.Proofs.YtgkiknfpcbcnnaaGreat
open Go.RowKit
set_option maxRecDepth 20000
def lies (v b l : Int) : Bool := decide (v / 2 ^ (16 - l).toNat = b / 2 ^ (16 - l).toNat)
theorem wrap_small (x : Nat) (h : x ≤ 65535) : IntKind.i64.wrap (x : Int) = (x : Int) := by
  simp [IntKind.wrap, IntKind.signed, IntKind.bits]
  omega
theorem bits_andNot (b k : Nat) (hb : b ≤ 65535) (h : k ≤ 16) : bits BinOp.andNot IntKind.i64 (b : Int) ((2 ^ k - 1 : Nat) : Int) = ((b / 2 ^ k * 2 ^ k : Nat) : Int) := by
  have hp := pow_bd k h
  have key : (BitVec.ofInt 64 (b : Int) &&& ~~~ BitVec.ofInt 64 ((2 ^ k - 1 : Nat) : Int)).toNat = b / 2 ^ k * 2 ^ k := by
    have e1 : BitVec.ofInt 64 (b : Int) = BitVec.ofNat 64 b := by simp
    have e2 : BitVec.ofInt 64 ((2 ^ k - 1 : Nat) : Int) = BitVec.ofNat 64 (2 ^ k - 1) := BitVec.ofInt_natCast ..
    rw [e1, e2]
    have hle : b / 2 ^ k * 2 ^ k ≤ b := Nat.div_mul_le_self b (2 ^ k)
    have e3 : b / 2 ^ k * 2 ^ k = (BitVec.ofNat 64 (b / 2 ^ k * 2 ^ k)).toNat := by rw [BitVec.toNat_ofNat]; omega
    rw [e3]
    congr 1
    ext i hi
    rw [BitVec.getElem_and, BitVec.getElem_not, ← BitVec.getLsbD_eq_getElem hi, ← BitVec.getLsbD_eq_getElem hi, ← BitVec.getLsbD_eq_getElem hi, BitVec.getLsbD_ofNat, BitVec.getLsbD_ofNat, BitVec.getLsbD_ofNat]
    simp only [hi, decide_true, Bool.true_and]
    rw [Nat.testBit_two_pow_sub_one, Nat.testBit_mul_two_pow, Nat.testBit_div_two_pow]
    by_cases hk : k ≤ i
    · have : ¬ i < k := by omega
      have e : i - k + k = i := by omega
      simp [this, hk, e]
    · have : i < k := by omega
      simp [this, hk]
  have hle : b / 2 ^ k * 2 ^ k ≤ b := Nat.div_mul_le_self b (2 ^ k)
  show IntKind.i64.wrap ((BitVec.ofInt 64 (b : Int) &&& ~~~ BitVec.ofInt 64 ((2 ^ k - 1 : Nat) : Int)).toNat : Int) = _
  rw [key]
  exact wrap_small _ (by omega)
theorem bBh_eq (l : Int) (h1 : 0 ≤ l) (h2 : l ≤ 16) : bBh l = ((2 ^ (16 - l).toNat - 1 : Nat) : Int) := by
  rw [bBh, if_pos ⟨h1, h2⟩]
  generalize hk : (16 - l).toNat = k
  have hp := pow_bd k (by omega)
  have e0 : (2 : Int) ^ k = ((2 ^ k : Nat) : Int) := by simp
  have e1 : wrap64 ((2 ^ k : Nat) : Int) = ((2 ^ k : Nat) : Int) := IntWalk.wrap64_in _ ⟨by omega, by omega⟩
  rw [e0, e1, IntWalk.wrap64_in _ ⟨by omega, by omega⟩]
  omega
theorem prefOK_bd {b l : Int} (h : prefOK b l = true) : 0 ≤ l ∧ l ≤ 16 ∧ 0 ≤ b ∧ b ≤ 65535 ∧ b % 2 ^ (16 - l).toNat = 0 := by
  simp only [prefOK, Bool.and_eq_true, decide_eq_true_eq] at h
  exact ⟨h.1.1.1.1, h.1.1.1.2, h.1.1.2, h.1.2, h.2⟩
theorem lies_bits (v b l : Int) (h : prefOK b l = true) (v0 : 0 ≤ v) (v1 : v ≤ 65535) :
    (bits BinOp.andNot IntKind.i64 v (bBh l) == b) = lies v b l := by
  obtain ⟨h1, h2, h3, h4, h5⟩ := prefOK_bd h
  rw [bBh_eq l h1 h2]
  obtain ⟨n, rfl⟩ := Int.eq_ofNat_of_zero_le v0
  obtain ⟨m, rfl⟩ := Int.eq_ofNat_of_zero_le h3
  unfold lies
  generalize hk : (16 - l).toNat = k at *
  rw [bits_andNot n k (by omega) (by omega)]
  have e0 : (2 : Int) ^ k = ((2 ^ k : Nat) : Int) := by simp
  rw [e0] at h5 ⊢
  have h6 : m % 2 ^ k = 0 := by omega
  have hp := (pow_bd k (by omega)).1
  have e1 : ((n : Int) / ((2 ^ k : Nat) : Int) = (m : Int) / ((2 ^ k : Nat) : Int)) = (n / 2 ^ k = m / 2 ^ k) := by
    rw [← Int.natCast_ediv, ← Int.natCast_ediv]
    exact propext Int.ofNat_inj
  simp only [e1]
  have h7 : m = m / 2 ^ k * 2 ^ k := by have := Nat.div_add_mod m (2 ^ k); rw [h6] at this; rw [Nat.mul_comm]; omega
  by_cases hx : n / 2 ^ k = m / 2 ^ k
  · rw [hx, ← h7]; simp
  · have : ¬ ((n / 2 ^ k * 2 ^ k : Nat) : Int) = (m : Int) := by
      intro hh
      apply hx
      have h8 : n / 2 ^ k * 2 ^ k = m := Int.ofNat_inj.1 hh
      rw [h7] at h8
      exact Nat.eq_of_mul_eq_mul_right hp h8
    rw [decide_eq_false hx]
    exact beq_eq_false_iff_ne.2 this
def tH (op vl v : Int) : Bool := (decide (4 ≤ op) && decide (v < vl)) || (decide (op / 2 % 2 = 1) && decide (vl < v)) || (decide (op % 2 = 1) && decide (v = vl))
def fY (op vl v : Int) : Bool := if op % 2 = 1 then bits BinOp.and IntKind.i64 v vl == vl else bits BinOp.and IntKind.i64 v vl != 0
def fH (op vl v : Int) : Bool := if 2 ≤ op then !fY op vl v else fY op vl v
def tmH (k : Int) (t : Tm) (v : Int) : Bool := if k = 5 then fH t.op t.vl v else tH t.op t.vl v
def gF (k v : Int) : Bool → List Tm → Bool
  | h, [] => h
  | h, t :: r => if t.an then gF k v (h && tmH k t v) r else if h then true else gF k v (tmH k t v) r
def gR (k v : Int) : List Tm → Bool
  | [] => true
  | t :: r => if t.an then tmH k t v && gR k v r else true
def gH (k v : Int) : List Tm → Bool
  | [] => false
  | t :: r => if t.an then gH k v r else (tmH k t v && gR k v r) || gH k v r
theorem gF_eq (k v : Int) : ∀ (ts : List Tm) (h : Bool), gF k v h ts = ((h && gR k v ts) || gH k v ts) := by
  intro ts
  induction ts with
  | nil => intro h; simp [gF, gR, gH]
  | cons t r ih =>
    intro h
    simp only [gF, gR, gH]
    cases ha : t.an
    · cases h <;> simp [ih]
    · simp [ih, Bool.and_assoc]
theorem gF_gH (k v : Int) (ts : List Tm) : gF k v false ts = gH k v ts := by rw [gF_eq]; simp
def metN (v vl : Nat) : Nat → Nat
  | 0 => 0
  | n + 1 => metN v vl n + (if vl / 2 ^ n % 2 = 1 then v / 2 ^ n % 2 else 0)
def askN (vl : Nat) : Nat → Nat
  | 0 => 0
  | n + 1 => askN vl n + (if vl / 2 ^ n % 2 = 1 then 1 else 0)
theorem tb (x i : Nat) : x.testBit i = decide (x / 2 ^ i % 2 = 1) := by rw [Nat.testBit_eq_decide_div_mod_eq]
theorem metN_zero (v vl : Nat) : ∀ n, metN v vl n = 0 ↔ ∀ i < n, (vl.testBit i && v.testBit i) = false := by
  intro n
  induction n with
  | zero => simp [metN]
  | succ n ih =>
    simp only [metN, Nat.add_eq_zero_iff, ih]
    constructor
    · rintro ⟨h1, h2⟩ i hi
      by_cases hin : i < n
      · exact h1 i hin
      · have : i = n := by omega
        subst this
        rw [tb, tb]
        by_cases hv : vl / 2 ^ i % 2 = 1
        · rw [if_pos hv] at h2; simp [hv, h2]
        · simp [hv]
    · intro h
      refine ⟨fun i hi => h i (by omega), ?_⟩
      have := h n (by omega)
      rw [tb, tb] at this
      by_cases hv : vl / 2 ^ n % 2 = 1
      · rw [if_pos hv]
        simp [hv] at this
        omega
      · rw [if_neg hv]
theorem metN_le (v vl : Nat) : ∀ n, metN v vl n ≤ askN vl n := by
  intro n
  induction n with
  | zero => simp [metN, askN]
  | succ n ih =>
    simp only [metN, askN]
    split <;> omega
theorem metN_all (v vl : Nat) : ∀ n, metN v vl n = askN vl n ↔ ∀ i < n, vl.testBit i = true → v.testBit i = true := by
  intro n
  induction n with
  | zero => simp [metN, askN]
  | succ n ih =>
    have hl := metN_le v vl n
    simp only [metN, askN]
    constructor
    · intro h i hi
      by_cases hv : vl / 2 ^ n % 2 = 1
      · rw [if_pos hv, if_pos hv] at h
        have e1 : metN v vl n = askN vl n := by omega
        by_cases hin : i < n
        · exact ih.1 e1 i hin
        · have : i = n := by omega
          subst this
          intro _
          rw [tb]; simp; omega
      · rw [if_neg hv, if_neg hv] at h
        by_cases hin : i < n
        · exact ih.1 (by omega) i hin
        · have : i = n := by omega
          subst this
          intro hb
          rw [tb] at hb; simp at hb; exact absurd hb hv
    · intro h
      have e1 := ih.2 (fun i hi => h i (by omega))
      by_cases hv : vl / 2 ^ n % 2 = 1
      · rw [if_pos hv, if_pos hv]
        have := h n (by omega) (by rw [tb]; simpa using hv)
        rw [tb] at this
        simp at this
        omega
      · rw [if_neg hv, if_neg hv]; omega
theorem bits_and_nat (a b : Nat) (ha : a ≤ 65535) (hb : b ≤ 65535) : bits BinOp.and IntKind.i64 (a : Int) (b : Int) = ((a &&& b : Nat) : Int) := by
  have key : (BitVec.ofInt 64 (a : Int) &&& BitVec.ofInt 64 (b : Int)).toNat = a &&& b := by
    rw [BitVec.toNat_and, BitVec.toNat_ofInt, BitVec.toNat_ofInt]
    have e1 : ((a : Int) % ((2 ^ 64 : Nat) : Int)).toNat = a := by omega
    have e2 : ((b : Int) % ((2 ^ 64 : Nat) : Int)).toNat = b := by omega
    rw [e1, e2]
  show IntKind.i64.wrap ((BitVec.ofInt 64 (a : Int) &&& BitVec.ofInt 64 (b : Int)).toNat : Int) = _
  rw [key]
  exact wrap_small _ (by have := Nat.and_le_left (n := a) (m := b); omega)
theorem and_zero (v vl : Nat) (h : v ≤ 255) : v &&& vl = 0 ↔ metN v vl 8 = 0 := by
  rw [metN_zero]
  constructor
  · intro he i _
    have := congrArg (fun x => Nat.testBit x i) he
    simp only [Nat.testBit_and, Nat.zero_testBit] at this
    rw [Bool.and_comm]; exact this
  · intro ha
    apply Nat.eq_of_testBit_eq
    intro i
    rw [Nat.testBit_and, Nat.zero_testBit]
    by_cases hi : i < 8
    · rw [Bool.and_comm]; exact ha i hi
    · have : v.testBit i = false := Nat.testBit_lt_two_pow (Nat.lt_of_lt_of_le (by omega : v < 2 ^ 8) (Nat.pow_le_pow_right (by omega) (by omega)))
      simp [this]
theorem and_all (v vl : Nat) (h : vl ≤ 255) : v &&& vl = vl ↔ metN v vl 8 = askN vl 8 := by
  rw [metN_all]
  constructor
  · intro he i _ hb
    have := congrArg (fun x => Nat.testBit x i) he
    simp only [Nat.testBit_and, hb, Bool.and_true] at this
    exact this
  · intro ha
    apply Nat.eq_of_testBit_eq
    intro i
    rw [Nat.testBit_and]
    by_cases hi : i < 8
    · cases hb : vl.testBit i
      · simp
      · rw [ha i hi hb]; rfl
    · have : vl.testBit i = false := Nat.testBit_lt_two_pow (Nat.lt_of_lt_of_le (by omega : vl < 2 ^ 8) (Nat.pow_le_pow_right (by omega) (by omega)))
      simp [this]
theorem fY_met (op : Int) (v vl : Nat) (hv : v ≤ 255) (hl : vl ≤ 255) :
    fY op (vl : Int) (v : Int) = if op % 2 = 1 then decide (metN v vl 8 = askN vl 8) else decide (0 < metN v vl 8) := by
  unfold fY
  rw [bits_and_nat v vl (by omega) (by omega)]
  have h1 := and_all v vl hl
  have h2 := and_zero v vl hv
  split
  · rw [Bool.eq_iff_iff]; simp only [beq_iff_eq, decide_eq_true_eq, ← h1]; exact Int.ofNat_inj
  · rw [Bool.eq_iff_iff]; simp only [bne_iff_ne, decide_eq_true_eq, ne_eq, Nat.pos_iff_ne_zero, ← h2]; omega
end Go.Proofs.YtgkiknfpcbcnnaaGreat
namespace Go.Proofs.YtgkiknfpcbcnnaaGreat
open Go.RowKit
set_option maxRecDepth 20000
structure Hd where
  ds : Int
  sr : Int
  pr : Int
  po : Int
  fl : Int
  la : Bool
def hdOK (h : Hd) : Bool := isN h.ds 65535 && isN h.sr 65535 && isN h.pr 255 && isN h.po 65535 && isN h.fl 255
theorem isN_bd {n m : Int} (h : isN n m = true) : 0 ≤ n ∧ n ≤ m := by
  simpa [isN] using h
theorem isN_of {n m : Int} (h0 : 0 ≤ n) (h1 : n ≤ m) : isN n m = true := by
  simp [isN, h0, h1]
def mxF (k : Int) : Int := if k = 3 ∨ k = 5 then 255 else 65535
theorem maxField_any (k : Int) (w : World) :
    Calls Tryz.prog 101 #[.int .i64 k] w fun e w' => e = .returned (.int .i64 (mxF k)) ∧ w' = w := by
  unfold mxF
  by_cases h3 : k = 3
  · subst h3
    go_enter Tryz.func101, Tryz.ntmps101
    go_wp2
    go_ret
    exact ⟨rfl, rfl⟩
  · by_cases h5 : k = 5
    · subst h5
      go_enter Tryz.func101, Tryz.ntmps101
      go_wp2
      go_ret
      exact ⟨rfl, rfl⟩
    · have b3 : (k == 3) = false := by simpa using h3
      have b5 : (k == 5) = false := by simpa using h5
      rw [if_neg (by omega)]
      go_enter Tryz.func101, Tryz.ntmps101
      go_wp2
      go_ret
      exact ⟨rfl, rfl⟩
def fldV (h : Hd) (k : Int) : Int := if k = 1 then h.ds else if k = 2 then h.sr else if k = 3 then h.pr else if k = 4 then h.po else h.fl
def fldB (h : Hd) (k : Int) : Bool := if 4 ≤ k then !h.la else true
set_option maxHeartbeats 800000 in
theorem fieldOf_any (h : Hd) (k : Int) (w : World) (k0 : 1 ≤ k) (k1 : k ≤ 5) :
    Calls Tryz.prog 100 #[.agg #[.int .i64 h.ds, .int .i64 h.sr, .int .i64 h.pr, .int .i64 h.po, .int .i64 h.fl, .bool h.la], .int .i64 k] w fun e w' => e = .returned (.tuple #[.int .i64 (fldV h k), .bool (fldB h k)]) ∧ Below w.heap.size w w' := by
  obtain ⟨ds, sr, pr, po, fl, la⟩ := h
  have hk : k = 1 ∨ k = 2 ∨ k = 3 ∨ k = 4 ∨ k = 5 := by omega
  rcases hk with rfl | rfl | rfl | rfl | rfl
  · go_enter Tryz.func100, Tryz.ntmps100
    go_wp2
    go_ret2
    exact ⟨rfl, below_alloc _ _⟩
  · go_enter Tryz.func100, Tryz.ntmps100
    go_wp2
    go_ret2
    exact ⟨rfl, below_alloc _ _⟩
  · go_enter Tryz.func100, Tryz.ntmps100
    go_wp2
    go_ret2
    exact ⟨rfl, below_alloc _ _⟩
  · go_enter Tryz.func100, Tryz.ntmps100
    go_wp2_with fail
    go_quiet (fail)
    go_wp2
    go_ret2
    exact ⟨rfl, below_drewN (below_alloc _ _) _⟩
  · go_enter Tryz.func100, Tryz.ntmps100
    go_wp2_with fail
    go_quiet (fail)
    go_wp2
    go_ret2
    exact ⟨rfl, below_drewN (below_alloc _ _) _⟩
def hdFr (h : Hd) : Nat → Bool
  | 0 => true
  | n + 1 => isN (fldV h (5 - (n : Int))) (mxF (5 - (n : Int))) && hdFr h n
theorem hdFr_all (h : Hd) : hdFr h 5 = hdOK h := by
  unfold hdOK
  show (isN h.ds 65535 && (isN h.sr 65535 && (isN h.pr 255 && (isN h.po 65535 && (isN h.fl 255 && true))))) = _
  simp only [Bool.and_true, Bool.and_assoc]
theorem cells_six {w : World} {a b c d e f : Value} {ty : Nat} {w1 : World} (hb : Below (w.alloc (.cells #[a, b, c, d, e, f] ty)).heap.size (w.alloc (.cells #[a, b, c, d, e, f] ty)) w1) :
    w1.cell? ⟨w.heap.size, 0, none⟩ = some a ∧ w1.cell? ⟨w.heap.size, 1, none⟩ = some b ∧ w1.cell? ⟨w.heap.size, 2, none⟩ = some c ∧ w1.cell? ⟨w.heap.size, 3, none⟩ = some d ∧ w1.cell? ⟨w.heap.size, 4, none⟩ = some e ∧ w1.cell? ⟨w.heap.size, 5, none⟩ = some f ∧ w.heap.size < w1.heap.size := by
  have hz := hb.size
  simp only [World.size_alloc] at hz
  refine ⟨?_, ?_, ?_, ?_, ?_, ?_, by omega⟩
  all_goals exact (hb.cell (by simp)).trans (by simp [go_sem])
set_option maxHeartbeats 800000 in
theorem isHeader_any (h : Hd) (w : World) :
    Calls Tryz.prog 80 #[.agg #[.int .i64 h.ds, .int .i64 h.sr, .int .i64 h.pr, .int .i64 h.po, .int .i64 h.fl, .bool h.la]] w fun e w' => e = .returned (.bool (hdOK h)) ∧ Below w.heap.size w w' := by
  have H0 : Hid (hdOK h = hdFr h 5) := (hdFr_all h).symm
  go_enter Tryz.func80, Tryz.ntmps80
  go_wp2_with fail
  go_loopw [3] (fun x wr => ∃ k : Int, x = .int .i64 k ∧ 1 ≤ k ∧ k ≤ 6 ∧ Below (w.alloc (.cells #[.int .i64 h.ds, .int .i64 h.sr, .int .i64 h.pr, .int .i64 h.po, .int .i64 h.fl, .bool h.la] 41)).heap.size (w.alloc (.cells #[.int .i64 h.ds, .int .i64 h.sr, .int .i64 h.pr, .int .i64 h.po, .int .i64 h.fl, .bool h.la] 41)) wr ∧ Hid (hdOK h = hdFr h (6 - k).toNat)) (fun x _ => (6 - intOf x).toNat)
  case atStart => exact ⟨1, rfl, by omega, by omega, Below.refl _ _, H0⟩
  case round =>
    obtain ⟨k, rfl, k1, k6, hbel, H⟩ := hrel
    clear H0
    obtain ⟨a0, a1, a2, a3, a4, a5, az⟩ := cells_six hbel
    have hb0 := below_first hbel
    have hz := hbel.size
    by_cases h5 : k ≤ 5
    · obtain ⟨n, hn⟩ : ∃ n : Nat, (6 - k).toNat = n + 1 := ⟨(5 - k).toNat, by omega⟩
      have hk : (5 - (n : Int)) = k := by omega
      have hk2 : (6 - (k + 1)).toNat = n := by omega
      rw [hn] at H
      have H' := H.out
      simp only [hdFr] at H'
      rw [hk] at H'
      clear H hn
      cases hv : isN (fldV h k) (mxF k)
      · have HF : Hid (hdOK h = false) := by show _ = _; rw [H', hv]; rfl
        clear H'
        by_cases hneg : fldV h k < 0
        · clear hv
          go_wp2_with fail
          refine (fieldOf_any h k _ k1 h5).mono ?_
          rintro e w1 ⟨rfl, hb1⟩
          go_wp2_with (go_at_call 101; refine (maxField_any _ _).mono ?_; rintro e w' ⟨rfl, rfl⟩)
          go_ret
          exact ⟨by rw [HF.out]; rfl, hb0.trans (hb1.mono (by omega))⟩
        · have hgt : mxF k < fldV h k := by
            apply Classical.byContradiction
            intro hh
            rw [isN_of (by omega) (by omega)] at hv
            cases hv
          have hnn : 0 ≤ fldV h k := by omega
          clear hv hneg
          go_wp2_with fail
          refine (fieldOf_any h k _ k1 h5).mono ?_
          rintro e w1 ⟨rfl, hb1⟩
          go_wp2_with (go_at_call 101; refine (maxField_any _ _).mono ?_; rintro e w' ⟨rfl, rfl⟩)
          go_ret
          exact ⟨by rw [HF.out]; rfl, hb0.trans (hb1.mono (by omega))⟩
      · have HF : Hid (hdOK h = hdFr h (6 - (k + 1)).toNat) := by show _ = _; rw [H', hv, hk2]; rfl
        have hnn := (isN_bd hv).1
        have hle := (isN_bd hv).2
        clear H' hv
        go_wp2_with fail
        refine (fieldOf_any h k _ k1 h5).mono ?_
        rintro e w1 ⟨rfl, hb1⟩
        go_wp2_with (go_at_call 101; refine (maxField_any _ _).mono ?_; rintro e w' ⟨rfl, rfl⟩)
        go_roundw
        case rel => exact ⟨k + 1, by go_num, by omega, by omega, hbel.trans (hb1.mono hz), HF⟩
        case measure => simp [intOf]; omega
    · have e6 : k = 6 := by omega
      subst e6
      have HF : Hid (hdOK h = true) := by show _ = _; rw [H.out]; rfl
      clear H
      go_wp2_with fail
      go_ret
      exact ⟨by rw [HF.out]; rfl, hb0⟩
theorem liesIn_any (v b l : Int) (w : World) (h : prefOK b l = true) (v0 : 0 ≤ v) (v1 : v ≤ 65535) :
    Calls Tryz.prog 132 #[.int .i64 v, .agg #[.int .i64 b, .int .i64 l]] w fun e w' => e = .returned (.bool (lies v b l)) ∧ Below w.heap.size w w' := by
  rw [← lies_bits v b l h v0 v1]
  go_enter Tryz.func132, Tryz.ntmps132
  go_wp2_with fail
  go_quiet ((go_at_call 92; exact Calls.quiet_of_same ((bitsBehind_any _ _).mono fun _ _ h => ⟨h.1, h.2.symm⟩)))
  go_wp2_with fail
  go_ret
  exact ⟨rfl, below_drewN (below_alloc _ _) _⟩
set_option maxHeartbeats 800000 in
theorem flagsHold_any (an wd : Bool) (op vl v : Int) (w : World) (o0 : 0 ≤ op) (o1 : op ≤ 3) :
    Calls Tryz.prog 150 #[.agg #[.bool an, .bool wd, .int .i64 op, .int .i64 vl], .int .i64 v] w fun e w' => e = .returned (.bool (fH op vl v)) ∧ Below w.heap.size w w' := by
  have ho : op = 0 ∨ op = 1 ∨ op = 2 ∨ op = 3 := by omega
  rcases ho with rfl | rfl | rfl | rfl
  all_goals
    go_enter Tryz.func150, Tryz.ntmps150
    go_wp2
    go_ret
    exact ⟨rfl, below_alloc _ _⟩
set_option maxHeartbeats 1600000 in
theorem termHolds_num (an wd : Bool) (op vl k v : Int) (w : World) (hk : (k == 5) = false) (o0 : 0 ≤ op) (o1 : op ≤ 7) :
    Calls Tryz.prog 148 #[.agg #[.bool an, .bool wd, .int .i64 op, .int .i64 vl], .int .i64 k, .int .i64 v] w fun e w' => e = .returned (.bool (tH op vl v)) ∧ Below w.heap.size w w' := by
  have ho : op = 0 ∨ op = 1 ∨ op = 2 ∨ op = 3 ∨ op = 4 ∨ op = 5 ∨ op = 6 ∨ op = 7 := by omega
  have hv : v < vl ∨ v = vl ∨ vl < v := by omega
  rcases hv with hv | rfl | hv
  · have d1 : decide (v < vl) = true := by simpa using hv
    have d2 : decide (vl < v) = false := by simp; omega
    have d3 : (v == vl) = false := by simp; omega
    have d4 : ¬ v = vl := by omega
    rcases ho with rfl | rfl | rfl | rfl | rfl | rfl | rfl | rfl
    all_goals
      unfold tH
      rw [d1, d2, decide_eq_false d4]
      clear d4
      go_enter Tryz.func148, Tryz.ntmps148
      go_wp2
      go_ret
      exact ⟨rfl, below_alloc _ _⟩
  · have d1 : decide (v < v) = false := by simp
    have d3 : (v == v) = true := by simp
    rcases ho with rfl | rfl | rfl | rfl | rfl | rfl | rfl | rfl
    all_goals
      unfold tH
      rw [d1]
      go_enter Tryz.func148, Tryz.ntmps148
      go_wp2
      go_ret
      exact ⟨rfl, below_alloc _ _⟩
  · have d1 : decide (v < vl) = false := by simp; omega
    have d2 : decide (vl < v) = true := by simpa using hv
    have d3 : (v == vl) = false := by simp; omega
    have d4 : ¬ v = vl := by omega
    rcases ho with rfl | rfl | rfl | rfl | rfl | rfl | rfl | rfl
    all_goals
      unfold tH
      rw [d1, d2, decide_eq_false d4]
      clear d4
      go_enter Tryz.func148, Tryz.ntmps148
      go_wp2
      go_ret
      exact ⟨rfl, below_alloc _ _⟩
end Go.Proofs.YtgkiknfpcbcnnaaGreat
namespace Go.Proofs.YtgkiknfpcbcnnaaGreat
open Go.RowKit
set_option maxRecDepth 20000
theorem isT_op (k : Int) (t : Tm) (h : isT k t = true) : 0 ≤ t.op ∧ t.op ≤ opM k ∧ 0 ≤ t.vl ∧ t.vl ≤ mxV t.wd ∧ (k = 5 → t.wd = false) := by
  unfold isT at h
  simp only [Bool.and_eq_true, decide_eq_true_eq, Bool.not_eq_true', Bool.and_eq_false_iff, decide_eq_false_iff_not] at h
  refine ⟨h.1.1.1.2, h.1.1.2, h.1.2, h.2, fun hk => ?_⟩
  rcases h.1.1.1.1 with h | h
  · exact h
  · exact absurd hk h
set_option maxHeartbeats 400000 in
theorem termHolds_flags (an wd : Bool) (op vl v : Int) (w : World) (o0 : 0 ≤ op) (o1 : op ≤ 3) :
    Calls Tryz.prog 148 #[.agg #[.bool an, .bool wd, .int .i64 op, .int .i64 vl], .int .i64 5, .int .i64 v] w fun e w' => e = .returned (.bool (fH op vl v)) ∧ Below w.heap.size w w' := by
  go_enter Tryz.func148, Tryz.ntmps148
  go_wp2_with (go_at_call 150; refine (flagsHold_any _ _ _ _ _ _ o0 o1).mono ?_; rintro e w1 ⟨rfl, hb1⟩)
  go_ret
  exact ⟨rfl, (below_alloc _ _).trans (hb1.mono (by simp))⟩
theorem termHolds_any (t : Tm) (k v : Int) (w : World) (ht : isT k t = true) :
    Calls Tryz.prog 148 #[.agg #[.bool t.an, .bool t.wd, .int .i64 t.op, .int .i64 t.vl], .int .i64 k, .int .i64 v] w fun e w' => e = .returned (.bool (tmH k t v)) ∧ Below w.heap.size w w' := by
  obtain ⟨h0, h1, _⟩ := isT_op k t ht
  unfold tmH
  by_cases hk : k = 5
  · subst hk
    rw [if_pos rfl]
    exact termHolds_flags _ _ _ _ _ _ h0 (by unfold opM at h1; simpa using h1)
  · rw [if_neg hk]
    exact termHolds_num _ _ _ _ _ _ _ (by simpa using hk) h0 (by unfold opM at h1; rw [if_neg hk] at h1; exact h1)
set_option maxHeartbeats 800000 in
theorem someGroupHolds_any (ts : List Tm) (ao : Option Addr) (cap : Nat) (k v : Int) (w : World) (hlen : ts.length ≤ 8) (hall : allT k true ts = true) (ht : TermsIn w ao ts) :
    Calls Tryz.prog 141 #[.slice ao ts.length cap, .int .i64 k, .int .i64 v] w fun e w' => e = .returned (.bool (gH k v ts)) ∧ Below w.heap.size w w' := by
  rw [← gF_gH]
  go_enter Tryz.func141, Tryz.ntmps141
  go_wp2
  go_loopw [7, 12] (fun hh i wr => ∃ (j : Nat) (h : Bool), i = .int .i64 j ∧ hh = .bool h ∧ j ≤ ts.length ∧ Below w.heap.size w wr ∧ Hid (gF k v false ts = gF k v h (ts.drop j))) (fun _ i _ => ts.length - (intOf i).toNat)
  case atStart => exact ⟨0, false, rfl, rfl, Nat.zero_le _, Below.refl _ _, rfl⟩
  case round =>
    obtain ⟨j, h, rfl, rfl, hj, hbel, H⟩ := hrel
    by_cases hlt : j < ts.length
    · obtain ⟨b, off, rfl, c0, c1, c2, c3⟩ := ht.below hbel j hlt
      have hd : ts.drop j = ts[j] :: ts.drop (j + 1) := List.drop_eq_getElem_cons hlt
      have hT := allT_get _ _ _ hall j hlt
      rw [hd] at H
      clear hd ht hall
      generalize ts[j] = t at *
      have hz := hbel.size
      obtain ⟨an, wd, op, vl⟩ := t
      simp only [] at c0 c1 c2 c3
      cases an
      · cases h
        · have HN : Hid (gF k v false ts = gF k v (tmH k ⟨false, wd, op, vl⟩ v) (ts.drop (j + 1))) := by show _ = _; rw [H.out]; simp [gF]
          clear H
          go_wp2_with (go_at_call 148; refine (termHolds_any ⟨_, _, _, _⟩ _ _ _ hT).mono ?_; rintro e w1 ⟨rfl, hb1⟩)
          go_roundw
          case rel => exact ⟨j + 1, _, by go_num, rfl, by omega, (hbel.alloc hz _).trans (hb1.mono (by simp; omega)), HN⟩
          case measure => simp [intOf]; omega
        · have HN : Hid (gF k v false ts = true) := by show _ = _; rw [H.out]; simp [gF]
          clear H
          go_wp2
          go_ret
          exact ⟨by rw [HN.out]; rfl, hbel.alloc hz _⟩
      · cases h
        · have HN : Hid (gF k v false ts = gF k v false (ts.drop (j + 1))) := by show _ = _; rw [H.out]; simp [gF]
          clear H
          go_wp2
          go_roundw
          case rel => exact ⟨j + 1, _, by go_num, rfl, by omega, hbel.alloc hz _, HN⟩
          case measure => simp [intOf]; omega
        · have HN : Hid (gF k v false ts = gF k v (tmH k ⟨true, wd, op, vl⟩ v) (ts.drop (j + 1))) := by show _ = _; rw [H.out]; simp [gF]
          clear H
          go_wp2_with (go_at_call 148; refine (termHolds_any ⟨_, _, _, _⟩ _ _ _ hT).mono ?_; rintro e w1 ⟨rfl, hb1⟩)
          go_roundw
          case rel => exact ⟨j + 1, _, by go_num, rfl, by omega, (hbel.alloc hz _).trans (hb1.mono (by simp; omega)), HN⟩
          case measure => simp [intOf]; omega
    · have HN : Hid (gF k v false ts = h) := by show _ = _; rw [H.out, List.drop_of_length_le (by omega)]; rfl
      clear H ht
      go_wp2
      go_ret
      exact ⟨by rw [HN.out]; rfl, hbel⟩
end Go.Proofs.YtgkiknfpcbcnnaaGreat
