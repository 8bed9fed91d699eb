import Derived.WalkKit
import Derived.Test.YtgkiknfpcbcnnaaGreatRows
import Derived.WalkSpells
import Derived.BigQuiet
import Derived.Deep.QuietTactic
namespace Go.Proofs.YtgkiknfpcbcnnaaGreat
structure Tm where
  an : Bool
  wd : Bool
  op : Int
  vl : Int
structure Pt where
  ty : Int
  bt : Int
  ln : Int
  ts : List Tm
def byt (s : ByteArray) (a : Int) : Int := if h : a.toNat < s.size then (s[a.toNat].toNat : Int) else 0
theorem byt_nonneg (s : ByteArray) (a : Int) : 0 ≤ byt s a := by
  unfold byt; split <;> omega
theorem byt_le (s : ByteArray) (a : Int) : byt s a ≤ 255 := by
  unfold byt
  split
  · rename_i h
    have := (s[a.toNat]).toNat_lt
    omega
  · omega
def num (s : ByteArray) (a : Int) : Nat → Int
  | 0 => 0
  | c + 1 => num s a c * 256 + byt s (a + c)
theorem num_bd (s : ByteArray) (a : Int) (c : Nat) (h : c ≤ 2) : 0 ≤ num s a c ∧ num s a c ≤ 65535 ∧ (c ≤ 1 → num s a c ≤ 255) ∧ (c = 0 → num s a c = 0) := by
  have b0 := byt_nonneg s
  have b1 := byt_le s
  match c, h with
  | 0, _ => simp [num]
  | 1, _ => have := b0 (a + (0:Nat)); have := b1 (a + (0:Nat)); simp only [num]; omega
  | 2, _ => have := b0 (a + (0:Nat)); have := b1 (a + (0:Nat)); have := b0 (a + (1:Nat)); have := b1 (a + (1:Nat)); simp only [num]; omega
def mOK (m k : Int) (f : Bool) : Bool := (if k = 5 then decide (m % 64 ≤ 3) else (decide (m % 16 < 8) && decide (m % 64 < 32))) && (!f || decide (m / 64 % 2 = 0))
def mWide (m : Int) : Bool := decide (m / 16 % 2 = 1)
def mAnd (m : Int) : Bool := decide (m / 64 % 2 = 1)
def mLast (m : Int) : Bool := decide (128 ≤ m)
def mOp (m k : Int) : Int := if k = 5 then m % 4 else m % 8
def opM (k : Int) : Int := if k = 5 then 3 else 7
def mxV (w : Bool) : Int := if w then 65535 else 255
def vB (w : Bool) : Int := if w then 2 else 1
def pB (l : Int) : Int := if 8 < l then 2 else if 0 < l then 1 else 0
theorem byte_cases {p : Int → Prop} (h : ∀ n : Fin 256, p (n.val : Int)) (m : Int) (h0 : 0 ≤ m) (h1 : m ≤ 255) : p m := by
  have := h ⟨m.toNat, by omega⟩
  have e : ((m.toNat : Nat) : Int) = m := by omega
  simpa [e] using this
theorem and16 (m : Int) (h0 : 0 ≤ m) (h1 : m ≤ 255) : (bits BinOp.and IntKind.i64 m 16 != 0) = mWide m :=
  byte_cases (p := fun m => (bits BinOp.and IntKind.i64 m 16 != 0) = mWide m) (by decide +kernel) m h0 h1
theorem and64 (m : Int) (h0 : 0 ≤ m) (h1 : m ≤ 255) : (bits BinOp.and IntKind.i64 m 64 != 0) = mAnd m :=
  byte_cases (p := fun m => (bits BinOp.and IntKind.i64 m 64 != 0) = mAnd m) (by decide +kernel) m h0 h1
theorem and64z (m : Int) (h0 : 0 ≤ m) (h1 : m ≤ 255) : (bits BinOp.and IntKind.i64 m 64 == 0) = !mAnd m :=
  byte_cases (p := fun m => (bits BinOp.and IntKind.i64 m 64 == 0) = !mAnd m) (by decide +kernel) m h0 h1
theorem and128 (m : Int) (h0 : 0 ≤ m) (h1 : m ≤ 255) : (bits BinOp.and IntKind.i64 m 128 != 0) = mLast m :=
  byte_cases (p := fun m => (bits BinOp.and IntKind.i64 m 128 != 0) = mLast m) (by decide +kernel) m h0 h1
theorem and3 (m : Int) (h0 : 0 ≤ m) (h1 : m ≤ 255) : bits BinOp.and IntKind.i64 m 3 = m % 4 :=
  byte_cases (p := fun m => bits BinOp.and IntKind.i64 m 3 = m % 4) (by decide +kernel) m h0 h1
theorem and7 (m : Int) (h0 : 0 ≤ m) (h1 : m ≤ 255) : bits BinOp.and IntKind.i64 m 7 = m % 8 :=
  byte_cases (p := fun m => bits BinOp.and IntKind.i64 m 7 = m % 8) (by decide +kernel) m h0 h1
theorem andn5 (m : Int) (h0 : 0 ≤ m) (h1 : m ≤ 255) : (bits BinOp.andNot IntKind.i64 m (bits BinOp.or IntKind.i64 192 3) != 0) = !decide (m % 64 ≤ 3) :=
  byte_cases (p := fun m => (bits BinOp.andNot IntKind.i64 m (bits BinOp.or IntKind.i64 192 3) != 0) = !decide (m % 64 ≤ 3)) (by decide +kernel) m h0 h1
theorem andn3 (m : Int) (h0 : 0 ≤ m) (h1 : m ≤ 255) : (bits BinOp.andNot IntKind.i64 m (bits BinOp.or IntKind.i64 208 7) != 0) = !(decide (m % 16 < 8) && decide (m % 64 < 32)) :=
  byte_cases (p := fun m => (bits BinOp.andNot IntKind.i64 m (bits BinOp.or IntKind.i64 208 7) != 0) = !(decide (m % 16 < 8) && decide (m % 64 < 32))) (by decide +kernel) m h0 h1
def tcell (t : Tm) : List Value := [.bool t.an, .bool t.wd, .int .i64 t.op, .int .i64 t.vl]
def tcells (l : List Tm) : List Value := l.flatMap tcell
def pcell (q : Pt × Value) : List Value := [.int .i64 q.1.ty, .int .i64 q.1.bt, .int .i64 q.1.ln, q.2]
def pcells (l : List (Pt × Value)) : List Value := l.flatMap pcell
theorem tcells_snoc (l : List Tm) (t : Tm) : tcells (l ++ [t]) = tcells l ++ tcell t := by simp [tcells]
theorem pcells_snoc (l : List (Pt × Value)) (t : Pt × Value) : pcells (l ++ [t]) = pcells l ++ pcell t := by simp [pcells]
def rdTerms (s : ByteArray) (k : Int) : Nat → Bool → Nat → Option (List Tm × Nat)
  | 0, _, _ => none
  | n + 1, f, a =>
    let m := byt s a
    let c := (vB (mWide m)).toNat
    if a < s.size ∧ mOK m k f = true ∧ a + 1 + c ≤ s.size then
      let t : Tm := ⟨mAnd m, mWide m, mOp m k, num s (a + 1) c⟩
      if mLast m then some ([t], a + 1 + c) else (rdTerms s k n false (a + 1 + c)).map fun r => (t :: r.1, r.2)
    else none
def prefOK (b l : Int) : Bool := decide (0 ≤ l) && decide (l ≤ 16) && decide (0 ≤ b) && decide (b ≤ 65535) && decide (b % (2 : Int) ^ (16 - l).toNat = 0)
def rdPref (s : ByteArray) (a : Nat) : Option (Int × Int × Nat) :=
  if a < s.size then
    let l := byt s a
    let c := (pB l).toNat
    if a + 1 + c ≤ s.size then
      let b := if c = 1 then num s (a + 1) c * 256 else num s (a + 1) c
      if prefOK b l then some (b, l, a + 1 + c) else none
    else none
  else none
def hasP (k : Int) : Bool := decide (k = 1 ∨ k = 2)
def hasT (k : Int) : Bool := decide (k = 3 ∨ k = 4 ∨ k = 5)
def rdPart (s : ByteArray) (a : Nat) : Option (Pt × Nat) :=
  if a < s.size then
    let k := byt s a
    if hasP k then (rdPref s (a + 1)).map fun r => (⟨k, r.1, r.2.1, []⟩, r.2.2)
    else if hasT k then (rdTerms s k 8 true (a + 1)).map fun r => (⟨k, 0, 0, r.1⟩, r.2)
    else none
  else none
def rdParts (s : ByteArray) : Nat → Int → Nat → Option (List Pt)
  | 0, _, _ => none
  | n + 1, b, a =>
    if a < s.size then
      match rdPart s a with
      | none => none
      | some (p, e) => if p.ty ≤ b then none else (rdParts s n p.ty e).map (p :: ·)
    else some []
def decS (s : ByteArray) : Option (List Pt) := if s.size = 0 then none else rdParts s 7 0 0
end Go.Proofs.YtgkiknfpcbcnnaaGreat
namespace Go.Proofs.YtgkiknfpcbcnnaaGreat
open Go.RowKit
set_option maxRecDepth 20000
theorem byteAt_any (s : ByteArray) (a : Int) (w : World) (h0 : 0 ≤ a) (hs : s.size ≤ 140737488351232) :
    Calls Tryz.prog 113 #[.string s, .int .i64 a] w fun e w' => e = .returned (.tuple #[.int .i64 (byt s a), .bool (decide (a < s.size))]) ∧ w = w' := by
  by_cases h : a < s.size
  · have e1 : byt s a = (s[a.toNat]'(by omega)).toNat := by unfold byt; rw [dif_pos (by omega)]
    have e2 : decide (a < s.size) = true := by simpa using h
    rw [e1, e2]
    clear e1 e2
    go_enter Tryz.func113, Tryz.ntmps113
    go_wp2
    go_ret2
    refine ⟨?_, rfl⟩
    show Ending.returned (.tuple #[.int .i64 (wrap64 _), .bool true]) = _
    rw [IntWalk.wrap64_in _ ⟨by omega, by have := (s[a.toNat]'(by omega)).toNat_lt; omega⟩]
  · have e1 : byt s a = 0 := by unfold byt; rw [dif_neg (by omega)]
    have e2 : decide (a < s.size) = false := by simpa using h
    rw [e1, e2]
    clear e1 e2
    go_enter Tryz.func113, Tryz.ntmps113
    go_wp2
    go_ret2
    exact ⟨rfl, rfl⟩
theorem hasPrefix_any (k : Int) (w : World) :
    Calls Tryz.prog 114 #[.int .i64 k] w fun e w' => e = .returned (.bool (hasP k)) ∧ w = w' := by
  by_cases h1 : k = 1
  · subst h1; go_enter Tryz.func114, Tryz.ntmps114; go_wp2; go_ret; exact ⟨rfl, rfl⟩
  by_cases h2 : k = 2
  · subst h2; go_enter Tryz.func114, Tryz.ntmps114; go_wp2; go_ret; exact ⟨rfl, rfl⟩
  have e1 : (k == 1) = false := by simpa using h1
  have e2 : (k == 2) = false := by simpa using h2
  have e : hasP k = false := by simp [hasP, h1, h2]
  rw [e]
  clear e
  go_enter Tryz.func114, Tryz.ntmps114; go_wp2; go_ret; exact ⟨by simp, rfl⟩
theorem hasTerms_any (k : Int) (w : World) :
    Calls Tryz.prog 116 #[.int .i64 k] w fun e w' => e = .returned (.bool (hasT k)) ∧ w = w' := by
  by_cases h1 : k = 3
  · subst h1; go_enter Tryz.func116, Tryz.ntmps116; go_wp2; go_ret; exact ⟨rfl, rfl⟩
  by_cases h2 : k = 4
  · subst h2; go_enter Tryz.func116, Tryz.ntmps116; go_wp2; go_ret; exact ⟨rfl, rfl⟩
  by_cases h3 : k = 5
  · subst h3; go_enter Tryz.func116, Tryz.ntmps116; go_wp2; go_ret; exact ⟨rfl, rfl⟩
  have e1 : (k == 3) = false := by simpa using h1
  have e2 : (k == 4) = false := by simpa using h2
  have e3 : (k == 5) = false := by simpa using h3
  have e : hasT k = false := by simp [hasT, h1, h2, h3]
  rw [e]
  clear e
  go_enter Tryz.func116, Tryz.ntmps116; go_wp2; go_ret; exact ⟨by simp, rfl⟩
theorem prefixBytes_any (k : Int) (w : World) :
    Calls Tryz.prog 125 #[.int .i64 k] w fun e w' => e = .returned (.int .i64 (pB k)) ∧ w = w' := by
  by_cases h1 : 8 < k
  · have e : pB k = 2 := by simp [pB, h1]
    rw [e]; clear e
    go_enter Tryz.func125, Tryz.ntmps125; go_wp2; go_ret; exact ⟨rfl, rfl⟩
  by_cases h2 : 0 < k
  · have e : pB k = 1 := by simp [pB, h1, h2]
    rw [e]; clear e
    go_enter Tryz.func125, Tryz.ntmps125; go_wp2; go_ret; exact ⟨rfl, rfl⟩
  have e : pB k = 0 := by simp [pB, h1, h2]
  rw [e]; clear e
  go_enter Tryz.func125, Tryz.ntmps125; go_wp2; go_ret; exact ⟨rfl, rfl⟩
theorem valueBytes_any (b : Bool) (w : World) :
    Calls Tryz.prog 128 #[.bool b] w fun e w' => e = .returned (.int .i64 (vB b)) ∧ w = w' := by
  cases b <;> (go_enter Tryz.func128, Tryz.ntmps128; go_wp2; go_ret; exact ⟨rfl, rfl⟩)
theorem opMarks_any (k : Int) (w : World) :
    Calls Tryz.prog 129 #[.int .i64 k] w fun e w' => e = .returned (.int .i64 (opM k)) ∧ w = w' := by
  unfold opM
  by_cases h : k = 5
  · subst h
    go_enter Tryz.func129, Tryz.ntmps129; go_wp2; go_ret; exact ⟨rfl, rfl⟩
  · rw [if_neg h]
    have h' : (k == 5) = false := by simpa using h
    go_enter Tryz.func129, Tryz.ntmps129; go_wp2; go_ret; exact ⟨rfl, rfl⟩
theorem a64 (m : Int) : decide (m / 64 % 2 = 1) = !decide (m / 64 % 2 = 0) := by
  by_cases h : m / 64 % 2 = 0
  · simp [h]
  · have : m / 64 % 2 = 1 := by omega
    simp [this]
theorem marksStand_any (m k : Int) (f : Bool) (w : World) (h0 : 0 ≤ m) (h1 : m ≤ 255) :
    Calls Tryz.prog 127 #[.int .i64 m, .int .i64 k, .bool f] w fun e w' => e = .returned (.bool (mOK m k f)) ∧ w = w' := by
  have e1 := andn5 m h0 h1
  have e2 := andn3 m h0 h1
  have e3 := and64z m h0 h1
  by_cases hk : k = 5
  · subst hk
    clear e2
    cases f
    all_goals
      cases hd : decide (m % 64 ≤ 3)
      all_goals
        rw [hd] at e1
        go_enter Tryz.func127, Tryz.ntmps127
        go_wp2
        go_ret
        refine ⟨?_, rfl⟩
        first | (simp [mOK, hd]; done) | (simp [mOK, hd, mAnd, a64]; done)
  · have h' : (k == 5) = false := by simpa using hk
    clear e1
    cases f
    all_goals
      cases hd : (decide (m % 16 < 8) && decide (m % 64 < 32))
      all_goals
        rw [hd] at e2
        go_enter Tryz.func127, Tryz.ntmps127
        go_wp2
        go_ret
        refine ⟨?_, rfl⟩
        simp only [mOK, if_neg hk, hd]
        first | (simp; done) | (simp [mAnd, a64]; done)
theorem num_succ (s : ByteArray) (a : Int) (c : Nat) : num s a (c + 1) = num s a c * 256 + byt s (a + c) := rfl
theorem readNumber_ok (s : ByteArray) (a c : Int) (w : World) (h0 : 0 ≤ a) (hs : s.size ≤ 140737488351232) (ha : a ≤ 140737488351240) (c0 : 0 ≤ c) (c2 : c ≤ 2) (h : c = 0 ∨ a + c ≤ s.size) :
    Calls Tryz.prog 126 #[.string s, .int .i64 a, .int .i64 c] w fun e w' => e = .returned (.tuple #[.int .i64 (num s a c.toNat), .bool true]) ∧ w = w' := by
  go_enter Tryz.func126, Tryz.ntmps126
  go_wp2
  go_loop [8, 9] (fun t i => ∃ k : Nat, k ≤ c.toNat ∧ i = .int .i64 k ∧ t = .int .i64 (num s a k)) (fun _ i => c.toNat - (intOf i).toNat)
  case atStart => exact ⟨0, Nat.zero_le _, rfl, rfl⟩
  case round =>
    obtain ⟨k, hk, rfl, rfl⟩ := hrel
    have hb := num_bd s a k (by omega)
    have b0 := byt_nonneg s (a + k)
    have b1 := byt_le s (a + k)
    by_cases hlt : (k : Int) < c
    · have hd : decide (a + (k : Int) < s.size) = true := by simp; omega
      have h1 : k ≤ 1 := by omega
      have hb' := hb.2.2.1 h1
      go_wp2_with (go_at_call 113; refine (byteAt_any _ _ _ (by omega) hs).mono ?_; rintro e w' ⟨rfl, rfl⟩)
      go_round
      case rel => exact ⟨k + 1, by omega, by go_num, by rw [num_succ]⟩
      case measure => simp [intOf]; omega
    · have e : c.toNat = k := by omega
      go_wp2
      go_ret2
      exact ⟨rfl, rfl⟩
theorem readNumber_no (s : ByteArray) (a c : Int) (w : World) (h0 : 0 ≤ a) (hs : s.size ≤ 140737488351232) (ha : a ≤ 140737488351240) (c0 : 0 < c) (c2 : c ≤ 2) (h : s.size < a + c) :
    Calls Tryz.prog 126 #[.string s, .int .i64 a, .int .i64 c] w fun e w' => e = .returned (.tuple #[.int .i64 0, .bool false]) ∧ w = w' := by
  go_enter Tryz.func126, Tryz.ntmps126
  go_wp2
  go_loop [8, 9] (fun t i => ∃ k : Nat, (k : Int) < c ∧ i = .int .i64 k ∧ t = .int .i64 (num s a k)) (fun _ i => c.toNat - (intOf i).toNat)
  case atStart => exact ⟨0, c0, rfl, rfl⟩
  case round =>
    obtain ⟨k, hlt, rfl, rfl⟩ := hrel
    have hb := num_bd s a k (by omega)
    have b0 := byt_nonneg s (a + k)
    have b1 := byt_le s (a + k)
    have h1 : k ≤ 1 := by omega
    have hb' := hb.2.2.1 h1
    by_cases hin : a + (k : Int) < s.size
    · have hd : decide (a + (k : Int) < s.size) = true := by simpa using hin
      go_wp2_with (go_at_call 113; refine (byteAt_any _ _ _ (by omega) hs).mono ?_; rintro e w' ⟨rfl, rfl⟩)
      go_round
      case rel => exact ⟨k + 1, by omega, by go_num, by rw [num_succ]⟩
      case measure => simp [intOf]; omega
    · have hd : decide (a + (k : Int) < s.size) = false := by simpa using hin
      go_wp2_with (go_at_call 113; refine (byteAt_any _ _ _ (by omega) hs).mono ?_; rintro e w' ⟨rfl, rfl⟩)
      go_ret2
      exact ⟨rfl, rfl⟩
end Go.Proofs.YtgkiknfpcbcnnaaGreat
namespace Go.Proofs.YtgkiknfpcbcnnaaGreat
open Go.RowKit
set_option maxRecDepth 20000
theorem bcell {W w1 : World} (hb : Below W.heap.size W w1) : (∀ b o, b < W.heap.size → w1.cell? ⟨b, o, none⟩ = W.cell? ⟨b, o, none⟩) ∧ (∀ b o, b < W.heap.size → w1.frozen? ⟨b, o, none⟩ = W.frozen? ⟨b, o, none⟩) :=
  ⟨fun b o h => hb.cell (p := ⟨b, o, none⟩) h, fun b o h => hb.frozen (p := ⟨b, o, none⟩) h⟩
theorem pow_bd (k : Nat) (h : k ≤ 16) : 1 ≤ 2 ^ k ∧ 2 ^ k ≤ 65536 :=
  ⟨Nat.one_le_two_pow, by have := Nat.pow_le_pow_right (n := 2) (by omega) h; simpa using this⟩
theorem bits_mask (b : Nat) (k : Nat) (hb : b ≤ 65535) (h : k ≤ 16) : bits BinOp.and IntKind.i64 (b : Int) ((2 ^ k - 1 : Nat) : Int) = ((b % 2 ^ k : Nat) : Int) := by
  have hp := pow_bd k h
  have key : (BitVec.ofInt 64 (b : Int) &&& BitVec.ofInt 64 ((2 ^ k - 1 : Nat) : Int)).toNat = b % 2 ^ k := by
    rw [BitVec.toNat_and, BitVec.toNat_ofInt, BitVec.toNat_ofInt]
    have e1 : ((b : Int) % ((2 ^ 64 : Nat) : Int)).toNat = b := by omega
    have e2 : (((2 ^ k - 1 : Nat) : Int) % ((2 ^ 64 : Nat) : Int)).toNat = 2 ^ k - 1 := by omega
    rw [e1, e2, Nat.and_two_pow_sub_one_eq_mod]
  have hlt : b % 2 ^ k ≤ b := Nat.mod_le _ _
  have e : bits BinOp.and IntKind.i64 (b : Int) ((2 ^ k - 1 : Nat) : Int) = IntKind.i64.wrap ((b % 2 ^ k : Nat) : Int) := by
    show IntKind.i64.wrap ((BitVec.ofInt 64 (b : Int) &&& BitVec.ofInt 64 ((2 ^ k - 1 : Nat) : Int)).toNat : Int) = _
    rw [key]
  rw [e]
  generalize b % 2 ^ k = x at hlt
  simp [IntKind.wrap, IntKind.signed, IntKind.bits]
  omega
theorem mask_eq (b l : Int) (h1 : 0 ≤ l) (h2 : l ≤ 16) (h3 : 0 ≤ b) (h4 : b ≤ 65535) :
    bits BinOp.and IntKind.i64 b (wrap64 (wrap64 (2 ^ (16 - l).toNat) - 1)) = b % 2 ^ (16 - l).toNat := by
  obtain ⟨n, rfl⟩ := Int.eq_ofNat_of_zero_le h3
  generalize hk : (16 - l).toNat = k
  have hk' : k ≤ 16 := by omega
  have hp := pow_bd k hk'
  have e0 : (2 : Int) ^ k = ((2 ^ k : Nat) : Int) := by simp
  have e1 : wrap64 ((2 : Int) ^ k) = ((2 ^ k : Nat) : Int) := by rw [e0]; exact IntWalk.wrap64_in _ ⟨by omega, by omega⟩
  have e2 : wrap64 (wrap64 ((2 : Int) ^ k) - 1) = ((2 ^ k - 1 : Nat) : Int) := by
    rw [e1]
    rw [IntWalk.wrap64_in _ ⟨by omega, by omega⟩]
    omega
  rw [e2, bits_mask n k (by omega) hk', e0]
  simp
def isN (n m : Int) : Bool := decide (0 ≤ n) && decide (n ≤ m)
theorem isN_true {n m : Int} (h0 : 0 ≤ n) (h1 : n ≤ m) : isN n m = true := by simp [isN, h0, h1]
theorem isN_false {n m : Int} (h : n < 0 ∨ m < n) : isN n m = false := by
  unfold isN
  rcases h with h | h
  · have : ¬ 0 ≤ n := by omega
    simp [this]
  · have : ¬ n ≤ m := by omega
    simp [this]
theorem isNumber_any (n m : Int) (w : World) :
    Calls Tryz.prog 149 #[.int .i64 n, .int .i64 m] w fun e w' => e = .returned (.bool (isN n m)) ∧ w = w' := by
  by_cases h0 : 0 ≤ n
  · by_cases h1 : n ≤ m
    · rw [isN_true h0 h1]
      go_enter Tryz.func149, Tryz.ntmps149; go_wp2; go_ret; exact ⟨by simp, rfl⟩
    · rw [isN_false (by omega)]
      go_enter Tryz.func149, Tryz.ntmps149; go_wp2; go_ret; exact ⟨by simp, rfl⟩
  · rw [isN_false (by omega)]
    go_enter Tryz.func149, Tryz.ntmps149; go_wp2; go_ret; exact ⟨rfl, rfl⟩
def bBh (l : Int) : Int := if 0 ≤ l ∧ l ≤ 16 then wrap64 (wrap64 (2 ^ (16 - l).toNat) - 1) else 0
theorem bitsBehind_any (l : Int) (w : World) :
    Calls Tryz.prog 92 #[.int .i64 l] w fun e w' => e = .returned (.int .i64 (bBh l)) ∧ w = w' := by
  unfold bBh
  by_cases h1 : 0 ≤ l
  · by_cases h2 : l ≤ 16
    · rw [if_pos ⟨h1, h2⟩]
      go_enter Tryz.func92, Tryz.ntmps92
      go_wp2
      go_ret
      exact ⟨rfl, rfl⟩
    · rw [if_neg (fun h => h2 h.2)]
      have h3 : 16 < l := by omega
      clear h2
      go_enter Tryz.func92, Tryz.ntmps92
      go_wp2
      go_ret
      exact ⟨rfl, rfl⟩
  · rw [if_neg (fun h => h1 h.1)]
    have h3 : l < 0 := by omega
    clear h1
    go_enter Tryz.func92, Tryz.ntmps92
    go_wp2
    go_ret
    exact ⟨rfl, rfl⟩
set_option maxHeartbeats 400000 in
theorem isPrefix_any (b l : Int) (w : World) :
    Calls Tryz.prog 69 #[.agg #[.int .i64 b, .int .i64 l]] w fun e w' => e = .returned (.bool (prefOK b l)) ∧ Below w.heap.size w w' := by
  by_cases hl1 : 0 ≤ l
  · by_cases hl2 : l ≤ 16
    · by_cases hb1 : 0 ≤ b
      · by_cases hb2 : b ≤ 65535
        · have E : Hid (prefOK b l = (bits BinOp.and IntKind.i64 b (bBh l) == 0)) := by
            show prefOK b l = _
            rw [bBh, if_pos ⟨hl1, hl2⟩, mask_eq b l hl1 hl2 hb1 hb2, prefOK]
            simp only [hl1, hl2, hb1, hb2, decide_true, Bool.true_and]
            by_cases hz : b % 2 ^ (16 - l).toNat = 0 <;> simp [hz]
          go_enter Tryz.func69, Tryz.ntmps69
          go_wp2_with fail
          go_quiet ((go_at_call 92; exact Calls.quiet_of_same ((bitsBehind_any _ _).mono fun _ _ h => ⟨h.1, h.2.symm⟩)))
          go_wp2_with fail
          go_ret
          exact ⟨by rw [E.out]; rfl, ((Below.refl _ _).alloc (Nat.le_refl _) _).trans ⟨rfl, rfl, rfl, Nat.le_refl _, fun _ _ => rfl⟩⟩
        · have e : prefOK b l = false := by unfold prefOK; simp only [Bool.and_eq_false_iff, decide_eq_false_iff_not]; omega
          rw [e]; clear e
          have h3 : 65535 < b := by omega
          clear hb2
          go_enter Tryz.func69, Tryz.ntmps69
          go_wp2
          go_ret
          exact ⟨rfl, (Below.refl _ _).alloc (Nat.le_refl _) _⟩
      · have e : prefOK b l = false := by unfold prefOK; simp only [Bool.and_eq_false_iff, decide_eq_false_iff_not]; omega
        rw [e]; clear e
        have h3 : b < 0 := by omega
        clear hb1
        go_enter Tryz.func69, Tryz.ntmps69
        go_wp2
        go_ret
        exact ⟨rfl, (Below.refl _ _).alloc (Nat.le_refl _) _⟩
    · have e : prefOK b l = false := by unfold prefOK; simp only [Bool.and_eq_false_iff, decide_eq_false_iff_not]; omega
      rw [e]; clear e
      have h3 : 16 < l := by omega
      clear hl2
      go_enter Tryz.func69, Tryz.ntmps69
      go_wp2
      go_ret
      exact ⟨rfl, (Below.refl _ _).alloc (Nat.le_refl _) _⟩
  · have e : prefOK b l = false := by unfold prefOK; simp only [Bool.and_eq_false_iff, decide_eq_false_iff_not]; omega
    rw [e]; clear e
    have h3 : l < 0 := by omega
    clear hl1
    go_enter Tryz.func69, Tryz.ntmps69
    go_wp2
    go_ret
    exact ⟨rfl, (Below.refl _ _).alloc (Nat.le_refl _) _⟩
theorem pB_bd (l : Int) : 0 ≤ pB l ∧ pB l ≤ 2 := by unfold pB; (repeat' split) <;> omega
theorem vB_bd (b : Bool) : 1 ≤ vB b ∧ vB b ≤ 2 := by cases b <;> simp [vB]
set_option maxHeartbeats 400000 in
theorem readPrefix_end (s : ByteArray) (a : Int) (w : World) (h0 : 0 ≤ a) (hs : s.size ≤ 140737488351232) (h1 : ¬ a < s.size) :
    Calls Tryz.prog 115 #[.string s, .int .i64 a] w fun e w' => Below w.heap.size w w' ∧
      e = .returned (.tuple #[.agg #[.int .i64 0, .int .i64 0], .int .i64 a, .bool false]) := by
  have hd1 : decide (a < s.size) = false := by simpa using h1
  go_enter Tryz.func115, Tryz.ntmps115
  go_wp2_with (go_at_call 113; refine (byteAt_any _ _ _ (by omega) hs).mono ?_; rintro e w' ⟨rfl, rfl⟩)
  exact bodyPost_ret (v := .tuple #[.agg #[.int .i64 0, .int .i64 0], .int .i64 a, .bool false]) (by simp [results, Tryz.results115, go_sem]) rfl ⟨((Below.refl _ _).alloc (Nat.le_refl _) _), rfl⟩
set_option maxHeartbeats 400000 in
theorem readPrefix_short (s : ByteArray) (a : Int) (w : World) (h0 : 0 ≤ a) (hs : s.size ≤ 140737488351232) (ha : a ≤ 140737488351232) (h1 : a < s.size) (h2 : 0 < pB (byt s a)) (h3 : s.size < a + 1 + pB (byt s a)) :
    Calls Tryz.prog 115 #[.string s, .int .i64 a] w fun e w' => Below w.heap.size w w' ∧
      e = .returned (.tuple #[.agg #[.int .i64 0, .int .i64 0], .int .i64 a, .bool false]) := by
  have hd1 : decide (a < s.size) = true := by simpa using h1
  have p0 := pB_bd (byt s a)
  go_enter Tryz.func115, Tryz.ntmps115
  go_wp2_with (first
    | (go_at_call 113; refine (byteAt_any _ _ _ (by omega) hs).mono ?_; rintro e w' ⟨rfl, rfl⟩)
    | (go_at_call 125; refine (prefixBytes_any _ _).mono ?_; rintro e w' ⟨rfl, rfl⟩)
    | (go_at_call 126; refine (readNumber_no _ _ _ _ (by omega) hs (by omega) (by omega) (by omega) (by omega)).mono ?_; rintro e w' ⟨rfl, rfl⟩))
  exact bodyPost_ret (v := .tuple #[.agg #[.int .i64 0, .int .i64 0], .int .i64 a, .bool false]) (by simp [results, Tryz.results115, go_sem]) rfl ⟨((Below.refl _ _).alloc (Nat.le_refl _) _), rfl⟩
set_option maxHeartbeats 800000 in
theorem readPrefix_one (s : ByteArray) (a : Int) (w : World) (h0 : 0 ≤ a) (hs : s.size ≤ 140737488351232) (ha : a ≤ 140737488351232) (h1 : a < s.size) (h3 : a + 1 + pB (byt s a) ≤ s.size)
    (one : Bool) (ho : (pB (byt s a) == 1) = one) (b : Int) (hb : b = if one then num s (a + 1) (pB (byt s a)).toNat * 256 else num s (a + 1) (pB (byt s a)).toNat) (ok : Bool) (hok : prefOK b (byt s a) = ok) :
    Calls Tryz.prog 115 #[.string s, .int .i64 a] w fun e w' => Below w.heap.size w w' ∧
      e = .returned (if ok then .tuple #[.agg #[.int .i64 b, .int .i64 (byt s a)], .int .i64 (a + 1 + pB (byt s a)), .bool true] else .tuple #[.agg #[.int .i64 0, .int .i64 0], .int .i64 a, .bool false]) := by
  have hd1 : decide (a < s.size) = true := by simpa using h1
  have p0 := pB_bd (byt s a)
  have l0 := byt_nonneg s a
  have l1 := byt_le s a
  obtain ⟨n0, n1, n2, _⟩ := num_bd s (a + 1) (pB (byt s a)).toNat (by omega)
  have n2' : one = true → num s (a + 1) (pB (byt s a)).toNat ≤ 255 := fun h => n2 (by rw [h] at ho; have := beq_iff_eq.1 ho; omega)
  clear n2
  cases one
  · simp only [Bool.false_eq_true, if_false] at hb
    subst hb
    cases ok
    · go_enter Tryz.func115, Tryz.ntmps115
      go_wp2_with (first
        | (go_at_call 113; refine (byteAt_any _ _ _ (by omega) hs).mono ?_; rintro e w' ⟨rfl, rfl⟩)
        | (go_at_call 125; refine (prefixBytes_any _ _).mono ?_; rintro e w' ⟨rfl, rfl⟩)
        | (go_at_call 126; refine (readNumber_ok _ _ _ _ (by omega) hs (by omega) (by omega) (by omega) (by omega)).mono ?_; rintro e w' ⟨rfl, rfl⟩)
        | (go_at_call 69; refine (isPrefix_any _ _ _).mono ?_; rintro e w' ⟨rfl, hbel⟩; obtain ⟨hc, hf⟩ := bcell hbel))
      have c0 : w'.cell? ⟨w.heap.size, 0, none⟩ = some (.int .i64 0) := (hc _ _ (by simp; omega)).trans (by simp [go_sem])
      have c1 : w'.cell? ⟨w.heap.size, 1, none⟩ = some (.int .i64 0) := (hc _ _ (by simp; omega)).trans (by simp [go_sem])
      refine bodyPost_ret (v := .tuple #[.agg #[.int .i64 0, .int .i64 0], .int .i64 a, .bool false]) (by simp [results, Tryz.results115, go_sem, c0, c1]) rfl ⟨?_, rfl⟩
      exact ((((((Below.refl _ _).alloc (Nat.le_refl _) _).alloc (by simp) _).trans (hbel.mono (by simp; omega))).setCell (Nat.le_refl _) _).setCell (Nat.le_refl _) _)
    · go_enter Tryz.func115, Tryz.ntmps115
      go_wp2_with (first
        | (go_at_call 113; refine (byteAt_any _ _ _ (by omega) hs).mono ?_; rintro e w' ⟨rfl, rfl⟩)
        | (go_at_call 125; refine (prefixBytes_any _ _).mono ?_; rintro e w' ⟨rfl, rfl⟩)
        | (go_at_call 126; refine (readNumber_ok _ _ _ _ (by omega) hs (by omega) (by omega) (by omega) (by omega)).mono ?_; rintro e w' ⟨rfl, rfl⟩)
        | (go_at_call 69; refine (isPrefix_any _ _ _).mono ?_; rintro e w' ⟨rfl, hbel⟩; obtain ⟨hc, hf⟩ := bcell hbel))
      have c0 : w'.cell? ⟨w.heap.size, 0, none⟩ = some (.int .i64 0) := (hc _ _ (by simp; omega)).trans (by simp [go_sem])
      have c1 : w'.cell? ⟨w.heap.size, 1, none⟩ = some (.int .i64 0) := (hc _ _ (by simp; omega)).trans (by simp [go_sem])
      refine bodyPost_ret (v := .tuple #[.agg #[.int .i64 (num s (a + 1) (pB (byt s a)).toNat), .int .i64 (byt s a)], .int .i64 (a + 1 + pB (byt s a)), .bool true]) (by simp [results, Tryz.results115, go_sem, c0, c1]) rfl ⟨?_, rfl⟩
      exact ((((((Below.refl _ _).alloc (Nat.le_refl _) _).alloc (by simp) _).trans (hbel.mono (by simp; omega))).setCell (Nat.le_refl _) _).setCell (Nat.le_refl _) _)
  · simp only [if_true] at hb
    subst hb
    have n3 := n2' rfl
    clear n2'
    cases ok
    · go_enter Tryz.func115, Tryz.ntmps115
      go_wp2_with (first
        | (go_at_call 113; refine (byteAt_any _ _ _ (by omega) hs).mono ?_; rintro e w' ⟨rfl, rfl⟩)
        | (go_at_call 125; refine (prefixBytes_any _ _).mono ?_; rintro e w' ⟨rfl, rfl⟩)
        | (go_at_call 126; refine (readNumber_ok _ _ _ _ (by omega) hs (by omega) (by omega) (by omega) (by omega)).mono ?_; rintro e w' ⟨rfl, rfl⟩)
        | (go_at_call 69; refine (isPrefix_any _ _ _).mono ?_; rintro e w' ⟨rfl, hbel⟩; obtain ⟨hc, hf⟩ := bcell hbel))
      have c0 : w'.cell? ⟨w.heap.size, 0, none⟩ = some (.int .i64 0) := (hc _ _ (by simp; omega)).trans (by simp [go_sem])
      have c1 : w'.cell? ⟨w.heap.size, 1, none⟩ = some (.int .i64 0) := (hc _ _ (by simp; omega)).trans (by simp [go_sem])
      refine bodyPost_ret (v := .tuple #[.agg #[.int .i64 0, .int .i64 0], .int .i64 a, .bool false]) (by simp [results, Tryz.results115, go_sem, c0, c1]) rfl ⟨?_, rfl⟩
      exact ((((((Below.refl _ _).alloc (Nat.le_refl _) _).alloc (by simp) _).trans (hbel.mono (by simp; omega))).setCell (Nat.le_refl _) _).setCell (Nat.le_refl _) _)
    · go_enter Tryz.func115, Tryz.ntmps115
      go_wp2_with (first
        | (go_at_call 113; refine (byteAt_any _ _ _ (by omega) hs).mono ?_; rintro e w' ⟨rfl, rfl⟩)
        | (go_at_call 125; refine (prefixBytes_any _ _).mono ?_; rintro e w' ⟨rfl, rfl⟩)
        | (go_at_call 126; refine (readNumber_ok _ _ _ _ (by omega) hs (by omega) (by omega) (by omega) (by omega)).mono ?_; rintro e w' ⟨rfl, rfl⟩)
        | (go_at_call 69; refine (isPrefix_any _ _ _).mono ?_; rintro e w' ⟨rfl, hbel⟩; obtain ⟨hc, hf⟩ := bcell hbel))
      have c0 : w'.cell? ⟨w.heap.size, 0, none⟩ = some (.int .i64 0) := (hc _ _ (by simp; omega)).trans (by simp [go_sem])
      have c1 : w'.cell? ⟨w.heap.size, 1, none⟩ = some (.int .i64 0) := (hc _ _ (by simp; omega)).trans (by simp [go_sem])
      refine bodyPost_ret (v := .tuple #[.agg #[.int .i64 (num s (a + 1) (pB (byt s a)).toNat * 256), .int .i64 (byt s a)], .int .i64 (a + 1 + pB (byt s a)), .bool true]) (by simp [results, Tryz.results115, go_sem, c0, c1]) rfl ⟨?_, rfl⟩
      exact ((((((Below.refl _ _).alloc (Nat.le_refl _) _).alloc (by simp) _).trans (hbel.mono (by simp; omega))).setCell (Nat.le_refl _) _).setCell (Nat.le_refl _) _)
theorem readPrefix_any (s : ByteArray) (a : Int) (w : World) (h0 : 0 ≤ a) (hs : s.size ≤ 140737488351232) (ha : a ≤ 140737488351232) :
    Calls Tryz.prog 115 #[.string s, .int .i64 a] w fun e w' => Below w.heap.size w w' ∧
      e = .returned (match rdPref s a.toNat with
        | some (b, l, n) => .tuple #[.agg #[.int .i64 b, .int .i64 l], .int .i64 n, .bool true]
        | none => .tuple #[.agg #[.int .i64 0, .int .i64 0], .int .i64 a, .bool false]) := by
  have p0 := pB_bd (byt s a)
  have ea : ((a.toNat : Nat) : Int) = a := by omega
  unfold rdPref
  rw [ea]
  by_cases h1 : a < s.size
  · rw [if_pos (by omega)]
    simp only []
    by_cases h2 : a + 1 + pB (byt s a) ≤ s.size
    · rw [if_pos (by omega)]
      refine (readPrefix_one s a w h0 hs ha h1 h2 _ rfl _ rfl _ rfl).mono fun e w' ⟨hb, he⟩ => ⟨hb, ?_⟩
      rw [he]
      have e1 : ((pB (byt s a) == 1) = true) = ((pB (byt s a)).toNat = 1) := by rw [beq_iff_eq]; exact propext ⟨fun h => by omega, fun h => by omega⟩
      simp only [e1]
      have e2 : a + 1 + pB (byt s a) = ((a.toNat + 1 + (pB (byt s a)).toNat : Nat) : Int) := by omega
      rw [e2]
      generalize (if (pB (byt s a)).toNat = 1 then num s (a + 1) (pB (byt s a)).toNat * 256 else num s (a + 1) (pB (byt s a)).toNat) = B
      cases prefOK B (byt s a) <;> rfl
    · rw [if_neg (by omega)]
      exact (readPrefix_short s a w h0 hs ha h1 (by omega) (by omega)).mono fun e w' h => h
  · rw [if_neg (by omega)]
    exact (readPrefix_end s a w h0 hs h1).mono fun e w' h => h
end Go.Proofs.YtgkiknfpcbcnnaaGreat
namespace Go.Proofs.YtgkiknfpcbcnnaaGreat
open Go.RowKit
set_option maxRecDepth 20000
theorem infoTerm : (Tryz.prog.info? 166).map (fun i => (i.zero, i.size, i.bytes)) = some (some (.agg #[.bool false, .bool false, .int .i64 0, .int .i64 0]), 4, 24) := by kernel_rfl
theorem infoPart : (Tryz.prog.info? 140).map (fun i => (i.zero, i.size, i.bytes)) = some (some (.agg #[.int .i64 0, .int .i64 0, .int .i64 0, .slice none 0 0]), 4, 48) := by kernel_rfl
theorem ownsRow_shape {w : World} {base : Nat} {e : TypeId} {size : Nat} {v : Value} {n : Nat} {xs : List Value} (h : w.ownsRow base e size v n xs) : ∃ ao cap, v = .slice ao n cap := by
  rcases h.2 with ⟨rfl, rfl⟩ | ⟨g, cap, cur, rfl, _⟩
  · exact ⟨none, 0, rfl⟩
  · exact ⟨_, _, rfl⟩
theorem ownsRow_base {w : World} {b b' : Nat} {e : TypeId} {size : Nat} {v : Value} {n : Nat} {xs : List Value} (h : w.ownsRow b e size v n xs) (hb : b' ≤ b) : w.ownsRow b' e size v n xs := by
  refine ⟨h.1, ?_⟩
  rcases h.2 with h | ⟨g, cap, cur, hv, hg, r⟩
  · exact .inl h
  · exact .inr ⟨g, cap, cur, hv, by omega, r⟩
theorem ownsRow_below {w w' : World} {b : Nat} {e : TypeId} {size : Nat} {v : Value} {n : Nat} {xs : List Value} (h : w.ownsRow b e size v n xs) (hb : Below w.heap.size w w') : w'.ownsRow b e size v n xs := by
  refine ⟨h.1, ?_⟩
  rcases h.2 with h | ⟨g, cap, cur, hv, hg, hh, r⟩
  · exact .inl h
  · exact .inr ⟨g, cap, cur, hv, hg, by rw [hb.block g (lt_of_block hh)]; exact hh, r⟩
theorem rdTerms_stop (s : ByteArray) (k : Int) (n : Nat) (f : Bool) (a : Nat) (h : ¬ (a < s.size ∧ mOK (byt s a) k f = true ∧ a + 1 + (vB (mWide (byt s a))).toNat ≤ s.size)) : rdTerms s k n f a = none := by
  cases n with
  | zero => rfl
  | succ n => unfold rdTerms; simp only []; rw [if_neg h]
theorem rdTerms_last (s : ByteArray) (k : Int) (n : Nat) (f : Bool) (a : Nat) (h : a < s.size ∧ mOK (byt s a) k f = true ∧ a + 1 + (vB (mWide (byt s a))).toNat ≤ s.size) (hl : mLast (byt s a) = true) :
    rdTerms s k (n + 1) f a = some ([⟨mAnd (byt s a), mWide (byt s a), mOp (byt s a) k, num s (a + 1) (vB (mWide (byt s a))).toNat⟩], a + 1 + (vB (mWide (byt s a))).toNat) := by
  unfold rdTerms; simp only []; rw [if_pos h, if_pos hl]
theorem rdTerms_more (s : ByteArray) (k : Int) (n : Nat) (f : Bool) (a : Nat) (h : a < s.size ∧ mOK (byt s a) k f = true ∧ a + 1 + (vB (mWide (byt s a))).toNat ≤ s.size) (hl : mLast (byt s a) = false) :
    rdTerms s k (n + 1) f a = (rdTerms s k n false (a + 1 + (vB (mWide (byt s a))).toNat)).map fun r => (⟨mAnd (byt s a), mWide (byt s a), mOp (byt s a) k, num s (a + 1) (vB (mWide (byt s a))).toNat⟩ :: r.1, r.2) := by
  conv => lhs; unfold rdTerms
  simp only []; rw [if_pos h, if_neg (by simp [hl])]
theorem cell_four_new (w : World) (a b c d : Value) (t : TypeId) : ∀ j u, [a, b, c, d][j]? = some u → (w.alloc (.cells #[a, b, c, d] t)).cell? ((⟨w.heap.size, 0, none⟩ : Addr).add j) = some u := by
  intro j u hj
  match j, hj with
  | 0, hj => simp at hj; subst hj; simp [Addr.add]
  | 1, hj => simp at hj; subst hj; simp [Addr.add]
  | 2, hj => simp at hj; subst hj; simp [Addr.add]
  | 3, hj => simp at hj; subst hj; simp [Addr.add]
  | n + 4, hj => simp at hj
theorem tcell_one (t : Tm) : ∀ u ∈ tcell t, u.oneCell' = true := by
  intro u hu
  simp only [tcell, List.mem_cons, List.not_mem_nil, or_false] at hu
  rcases hu with rfl | rfl | rfl | rfl <;> rfl
def Gath (s : ByteArray) (k : Int) (a0 : Nat) (ts : List Tm) (q : Nat) : Prop :=
  rdTerms s k 8 true a0 = (rdTerms s k (8 - ts.length) ts.isEmpty q).map fun r => (ts ++ r.1, r.2)
theorem Gath.start (s : ByteArray) (k : Int) (a0 : Nat) : Gath s k a0 [] a0 := by
  unfold Gath
  simp only [List.length_nil, List.isEmpty_nil, List.nil_append]
  cases rdTerms s k 8 true a0 <;> rfl
theorem Gath.stop {s : ByteArray} {k : Int} {a0 : Nat} {ts : List Tm} {q : Nat} (h : Gath s k a0 ts q) (hs : ts.length = 8 ∨ ¬ (q < s.size ∧ mOK (byt s q) k ts.isEmpty = true ∧ q + 1 + (vB (mWide (byt s q))).toNat ≤ s.size)) :
    rdTerms s k 8 true a0 = none := by
  rw [h]
  rcases hs with h8 | hs
  · rw [h8]; rfl
  · rw [rdTerms_stop _ _ _ _ _ hs]; rfl
theorem Gath.last {s : ByteArray} {k : Int} {a0 : Nat} {ts : List Tm} {q : Nat} (h : Gath s k a0 ts q) (h8 : ts.length < 8) (hs : q < s.size ∧ mOK (byt s q) k ts.isEmpty = true ∧ q + 1 + (vB (mWide (byt s q))).toNat ≤ s.size) (hl : mLast (byt s q) = true) :
    rdTerms s k 8 true a0 = some (ts ++ [⟨mAnd (byt s q), mWide (byt s q), mOp (byt s q) k, num s (q + 1) (vB (mWide (byt s q))).toNat⟩], q + 1 + (vB (mWide (byt s q))).toNat) := by
  rw [h]
  obtain ⟨n, hn⟩ : ∃ n, 8 - ts.length = n + 1 := ⟨7 - ts.length, by omega⟩
  rw [hn, rdTerms_last _ _ _ _ _ hs hl]; rfl
theorem Gath.more {s : ByteArray} {k : Int} {a0 : Nat} {ts : List Tm} {q : Nat} (h : Gath s k a0 ts q) (h8 : ts.length < 8) (hs : q < s.size ∧ mOK (byt s q) k ts.isEmpty = true ∧ q + 1 + (vB (mWide (byt s q))).toNat ≤ s.size) (hl : mLast (byt s q) = false) :
    Gath s k a0 (ts ++ [⟨mAnd (byt s q), mWide (byt s q), mOp (byt s q) k, num s (q + 1) (vB (mWide (byt s q))).toNat⟩]) (q + 1 + (vB (mWide (byt s q))).toNat) := by
  unfold Gath
  rw [h]
  obtain ⟨n, hn⟩ : ∃ n, 8 - ts.length = n + 1 := ⟨7 - ts.length, by omega⟩
  have hn' : 8 - (ts ++ [(⟨mAnd (byt s q), mWide (byt s q), mOp (byt s q) k, num s (q + 1) (vB (mWide (byt s q))).toNat⟩ : Tm)]).length = n := by simp; omega
  have he : (ts ++ [(⟨mAnd (byt s q), mWide (byt s q), mOp (byt s q) k, num s (q + 1) (vB (mWide (byt s q))).toNat⟩ : Tm)]).isEmpty = false := by simp
  rw [hn', he, hn, rdTerms_more _ _ _ _ _ hs hl]
  cases rdTerms s k n false (q + 1 + (vB (mWide (byt s q))).toNat) <;> simp
theorem opm (m k : Int) (h0 : 0 ≤ m) (h1 : m ≤ 255) : bits BinOp.and IntKind.i64 m (opM k) = mOp m k := by
  unfold mOp opM; split
  · exact and3 m h0 h1
  · exact and7 m h0 h1
theorem ownsTerms_snoc {w : World} {b : Nat} {v : Value} {ts : List Tm} {t : Tm} (h : w.ownsRow b 166 4 v (ts.length + 1) (tcells ts ++ tcell t)) : w.ownsRow b 166 4 v (ts ++ [t]).length (tcells (ts ++ [t])) := by
  rw [tcells_snoc, List.length_append]; exact h
theorem below_append {w wr w1 : World} {o : Obj} {e : TypeId} {size : Nat} {v : Value} {n : Nat} {xs : List Value} (hb : Below w.heap.size w wr) (hown : wr.ownsRow w.heap.size e size v n xs) (hg : (wr.alloc o).grownBy w1 v.ownBlock) : Below w.heap.size w w1 :=
  ((hb.alloc (by have := hb.size; omega) o).grown hg (by have := hb.size; simp; omega) (fun k hk => (hown.lt k hk).1))
def TermsPost (s : ByteArray) (k : Int) (a0 : Nat) (B : Nat) (e : Ending) (w' : World) : Prop :=
  match rdTerms s k 8 true a0 with
  | some (ts, n) => ∃ v, e = .returned (.tuple #[v, .int .i64 n, .bool true]) ∧ w'.ownsRow B 166 4 v ts.length (tcells ts)
  | none => ∃ n, e = .returned (.tuple #[.slice none 0 0, .int .i64 n, .bool false])
theorem TermsPost.no {s : ByteArray} {k : Int} {a0 B : Nat} {w' : World} (h : Hid (rdTerms s k 8 true a0 = none)) (n : Int) : TermsPost s k a0 B (.returned (.tuple #[.slice none 0 0, .int .i64 n, .bool false])) w' := by
  unfold TermsPost; rw [h.out]; exact ⟨n, rfl⟩
theorem TermsPost.yes {s : ByteArray} {k : Int} {a0 B : Nat} {w' : World} {ts : List Tm} {n : Nat} {v : Value} {n' : Int} (h : Hid (rdTerms s k 8 true a0 = some (ts, n))) (hn : n' = n) (ho : w'.ownsRow B 166 4 v ts.length (tcells ts)) :
    TermsPost s k a0 B (.returned (.tuple #[v, .int .i64 n', .bool true])) w' := by
  unfold TermsPost; rw [h.out]; subst hn; exact ⟨v, rfl, ho⟩
set_option maxHeartbeats 1600000 in
theorem readTerms_any (s : ByteArray) (a k : Int) (w : World) (h0 : 0 ≤ a) (hs : s.size ≤ 140737488351232) (ha : a ≤ s.size) :
    Calls Tryz.prog 117 #[.string s, .int .i64 a, .int .i64 k] w fun e w' => Below w.heap.size w w' ∧ TermsPost s k a.toNat w.heap.size e w' := by
  obtain ⟨i0, hi, hz0, hz1, hz2⟩ := info_parts infoTerm
  obtain ⟨a0, rfl⟩ := Int.eq_ofNat_of_zero_le h0
  rw [Int.toNat_natCast]
  go_enter Tryz.func117, Tryz.ntmps117
  go_wp2
  go_loopw [9, 1] (fun v a wr => ∃ (ts : List Tm) (q : Nat), ts.length ≤ 8 ∧ a = .int .i64 q ∧ q ≤ s.size ∧ wr.ownsRow w.heap.size 166 4 v ts.length (tcells ts) ∧ Below w.heap.size w wr ∧ Gath s k a0 ts q)
    (fun _ a _ => s.size - (intOf a).toNat)
  case atStart => exact ⟨[], a0, by simp, rfl, by omega, World.ownsRow_nil _ _ _ _, Below.refl _ _, Gath.start _ _ _⟩
  case round =>
    obtain ⟨ts, q, hl, rfl, hq, hown, hbel, hg⟩ := hrel
    obtain ⟨ao, cap, rfl⟩ := ownsRow_shape hown
    have m0 := byt_nonneg s q
    have m1 := byt_le s q
    have hE : ((ts.length : Int) == 0) = ts.isEmpty := by cases ts <;> simp; omega
    by_cases h8 : ts.length < 8
    · by_cases h1 : (q : Int) < s.size
      · have hd1 : decide ((q : Int) < s.size) = true := by simpa using h1
        cases hm : mOK (byt s q) k ts.isEmpty
        · have hstop := hg.stop (.inr (by rw [hm]; simp))
          have HS : Hid (rdTerms s k 8 true a0 = none) := hstop
          clear hstop
          go_wp2_with (first
            | (go_at_call 113; refine (byteAt_any _ _ _ (by omega) hs).mono ?_; rintro e w' ⟨rfl, rfl⟩)
            | (go_at_call 127; refine (marksStand_any _ _ _ _ (by omega) (by omega)).mono ?_; rintro e w' ⟨rfl, rfl⟩))
          go_ret3
          exact ⟨hbel, TermsPost.no HS _⟩
        · have v0 := vB_bd (mWide (byt s q))
          have e16 := and16 (byt s q) m0 m1
          by_cases h3 : (q : Int) + 1 + vB (mWide (byt s q)) ≤ s.size
          · have hin : q < s.size ∧ mOK (byt s q) k ts.isEmpty = true ∧ q + 1 + (vB (mWide (byt s q))).toNat ≤ s.size := ⟨by omega, hm, by omega⟩
            have e64 := and64 (byt s q) m0 m1
            have e128 := and128 (byt s q) m0 m1
            have eop := opm (byt s q) k m0 m1
            have hz := hbel.size
            cases hL : mLast (byt s q)
            · have HG : Hid (Gath s k a0 (ts ++ [⟨mAnd (byt s q), mWide (byt s q), mOp (byt s q) k, num s (q + 1) (vB (mWide (byt s q))).toNat⟩]) (q + 1 + (vB (mWide (byt s q))).toNat)) := hg.more h8 hin hL
              clear hg hin
              go_wp2_with (first
                | (go_at_call 113; refine (byteAt_any _ _ _ (by omega) hs).mono ?_; rintro e w' ⟨rfl, rfl⟩)
                | (go_at_call 127; refine (marksStand_any _ _ _ _ (by omega) (by omega)).mono ?_; rintro e w' ⟨rfl, rfl⟩)
                | (go_at_call 128; refine (valueBytes_any _ _).mono ?_; rintro e w' ⟨rfl, rfl⟩)
                | (go_at_call 129; refine (opMarks_any _ _).mono ?_; rintro e w' ⟨rfl, rfl⟩)
                | (go_at_call 126; refine (readNumber_ok _ _ _ _ (by omega) hs (by omega) (by omega) (by omega) (by omega)).mono ?_; rintro e w' ⟨rfl, rfl⟩)
                | (at_builtin; refine wpList_append_own _ rfl _ _ 138 rfl w.heap.size 166 i0 _ 4 24 Tryz.underlying138 hi hz0 hz1 hz2 rfl (by decide) _ _ _ rfl (hown.alloc _) ⟨wr.heap.size, 0, none⟩ 1 1 (tcell ⟨mAnd (byt s q), mWide (byt s q), mOp (byt s q) k, num s (q + 1) (vB (mWide (byt s q))).toNat⟩) rfl rfl (cell_four_new _ _ _ _ _ _) (tcell_one _) (by unfold maxLen; omega) (by omega) (by simp; omega) ?_; intro v' w1 hown' hgrow _; have hown2 := ownsTerms_snoc hown'; have hbel2 := below_append hbel hown hgrow; clear hown' hgrow hown hbel))
              go_roundw
              case rel => exact ⟨_, _, by simp; omega, by go_num, by omega, hown2, hbel2, HG.out⟩
              case measure => simp [intOf]; omega
            · have HG : Hid (rdTerms s k 8 true a0 = some (ts ++ [⟨mAnd (byt s q), mWide (byt s q), mOp (byt s q) k, num s (q + 1) (vB (mWide (byt s q))).toNat⟩], q + 1 + (vB (mWide (byt s q))).toNat)) := hg.last h8 hin hL
              clear hg hin
              go_wp2_with (first
                | (go_at_call 113; refine (byteAt_any _ _ _ (by omega) hs).mono ?_; rintro e w' ⟨rfl, rfl⟩)
                | (go_at_call 127; refine (marksStand_any _ _ _ _ (by omega) (by omega)).mono ?_; rintro e w' ⟨rfl, rfl⟩)
                | (go_at_call 128; refine (valueBytes_any _ _).mono ?_; rintro e w' ⟨rfl, rfl⟩)
                | (go_at_call 129; refine (opMarks_any _ _).mono ?_; rintro e w' ⟨rfl, rfl⟩)
                | (go_at_call 126; refine (readNumber_ok _ _ _ _ (by omega) hs (by omega) (by omega) (by omega) (by omega)).mono ?_; rintro e w' ⟨rfl, rfl⟩)
                | (at_builtin; refine wpList_append_own _ rfl _ _ 138 rfl w.heap.size 166 i0 _ 4 24 Tryz.underlying138 hi hz0 hz1 hz2 rfl (by decide) _ _ _ rfl (hown.alloc _) ⟨wr.heap.size, 0, none⟩ 1 1 (tcell ⟨mAnd (byt s q), mWide (byt s q), mOp (byt s q) k, num s (q + 1) (vB (mWide (byt s q))).toNat⟩) rfl rfl (cell_four_new _ _ _ _ _ _) (tcell_one _) (by unfold maxLen; omega) (by omega) (by simp; omega) ?_; intro v' w1 hown' hgrow _; have hown2 := ownsTerms_snoc hown'; have hbel2 := below_append hbel hown hgrow; clear hown' hgrow hown hbel))
              go_ret3
              exact ⟨hbel2, TermsPost.yes HG (by omega) hown2⟩
          · have hstop := hg.stop (.inr (by omega))
            have HS : Hid (rdTerms s k 8 true a0 = none) := hstop
            clear hstop
            go_wp2_with (first
              | (go_at_call 113; refine (byteAt_any _ _ _ (by omega) hs).mono ?_; rintro e w' ⟨rfl, rfl⟩)
              | (go_at_call 127; refine (marksStand_any _ _ _ _ (by omega) (by omega)).mono ?_; rintro e w' ⟨rfl, rfl⟩)
              | (go_at_call 128; refine (valueBytes_any _ _).mono ?_; rintro e w' ⟨rfl, rfl⟩)
              | (go_at_call 126; refine (readNumber_no _ _ _ _ (by omega) hs (by omega) (by omega) (by omega) (by omega)).mono ?_; rintro e w' ⟨rfl, rfl⟩))
            go_ret3
            exact ⟨hbel, TermsPost.no HS _⟩
      · have hd1 : decide ((q : Int) < s.size) = false := by simpa using h1
        have hstop := hg.stop (.inr (by omega))
        have HS : Hid (rdTerms s k 8 true a0 = none) := hstop
        clear hstop
        go_wp2_with (go_at_call 113; refine (byteAt_any _ _ _ (by omega) hs).mono ?_; rintro e w' ⟨rfl, rfl⟩)
        go_ret3
        exact ⟨hbel, TermsPost.no HS _⟩
    · have hstop := hg.stop (.inl (by omega))
      have HS : Hid (rdTerms s k 8 true a0 = none) := hstop
      clear hstop
      go_wp2
      go_ret3
      exact ⟨hbel, TermsPost.no HS _⟩
end Go.Proofs.YtgkiknfpcbcnnaaGreat
namespace Go.Proofs.YtgkiknfpcbcnnaaGreat
open Go.RowKit
set_option maxRecDepth 20000
def PartPost (s : ByteArray) (a0 : Nat) (B : Nat) (e : Ending) (w' : World) : Prop :=
  match rdPart s a0 with
  | some (p, n) => ∃ v, e = .returned (.tuple #[.agg #[.int .i64 p.ty, .int .i64 p.bt, .int .i64 p.ln, v], .int .i64 n, .bool true]) ∧ w'.ownsRow B 166 4 v p.ts.length (tcells p.ts)
  | none => ∃ x y z n, e = .returned (.tuple #[.agg #[.int .i64 x, .int .i64 y, .int .i64 z, .slice none 0 0], .int .i64 n, .bool false])
theorem PartPost.no {s : ByteArray} {a0 B : Nat} {w' : World} (h : Hid (rdPart s a0 = none)) (x y z n : Int) : PartPost s a0 B (.returned (.tuple #[.agg #[.int .i64 x, .int .i64 y, .int .i64 z, .slice none 0 0], .int .i64 n, .bool false])) w' := by
  unfold PartPost; rw [h.out]; exact ⟨x, y, z, n, rfl⟩
theorem PartPost.yes {s : ByteArray} {a0 B : Nat} {w' : World} {p : Pt} {n : Nat} {v : Value} (h : Hid (rdPart s a0 = some (p, n))) (ho : w'.ownsRow B 166 4 v p.ts.length (tcells p.ts)) :
    PartPost s a0 B (.returned (.tuple #[.agg #[.int .i64 p.ty, .int .i64 p.bt, .int .i64 p.ln, v], .int .i64 n, .bool true])) w' := by
  unfold PartPost; rw [h.out]; exact ⟨v, rfl, ho⟩
theorem rdPart_end (s : ByteArray) (a : Nat) (h : ¬ a < s.size) : rdPart s a = none := by unfold rdPart; rw [if_neg h]
theorem rdPart_pref (s : ByteArray) (a : Nat) (h : a < s.size) (hp : hasP (byt s a) = true) : rdPart s a = (rdPref s (a + 1)).map fun r => (⟨byt s a, r.1, r.2.1, []⟩, r.2.2) := by
  unfold rdPart; rw [if_pos h]; simp only []; rw [if_pos hp]
theorem rdPart_terms (s : ByteArray) (a : Nat) (h : a < s.size) (hp : hasP (byt s a) = false) (ht : hasT (byt s a) = true) : rdPart s a = (rdTerms s (byt s a) 8 true (a + 1)).map fun r => (⟨byt s a, 0, 0, r.1⟩, r.2) := by
  unfold rdPart; rw [if_pos h]; simp only []; rw [if_neg (by simp [hp]), if_pos ht]
theorem rdPart_none (s : ByteArray) (a : Nat) (hp : hasP (byt s a) = false) (ht : hasT (byt s a) = false) : rdPart s a = none := by
  unfold rdPart; split
  · simp only []; rw [if_neg (by simp [hp]), if_neg (by simp [ht])]
  · rfl
theorem readPrefix_no' (s : ByteArray) (a : Int) (w : World) (n : Nat) (hn : a.toNat = n) (h0 : 0 ≤ a) (hs : s.size ≤ 140737488351232) (ha : a ≤ 140737488351232) (hr : Hid (rdPref s n = none)) :
    Calls Tryz.prog 115 #[.string s, .int .i64 a] w fun e w' => e = .returned (.tuple #[.agg #[.int .i64 0, .int .i64 0], .int .i64 a, .bool false]) ∧ Below w.heap.size w w' :=
  (readPrefix_any s a w h0 hs ha).mono fun e w' ⟨hb, he⟩ => ⟨by rw [he, hn, hr.out], hb⟩
theorem readPrefix_yes' (s : ByteArray) (a : Int) (w : World) (n : Nat) (hn : a.toNat = n) (h0 : 0 ≤ a) (hs : s.size ≤ 140737488351232) (ha : a ≤ 140737488351232) (b l : Int) (m : Nat) (hr : Hid (rdPref s n = some (b, l, m))) :
    Calls Tryz.prog 115 #[.string s, .int .i64 a] w fun e w' => e = .returned (.tuple #[.agg #[.int .i64 b, .int .i64 l], .int .i64 m, .bool true]) ∧ Below w.heap.size w w' :=
  (readPrefix_any s a w h0 hs ha).mono fun e w' ⟨hb, he⟩ => ⟨by rw [he, hn, hr.out], hb⟩
theorem readTerms_no' (s : ByteArray) (a k : Int) (w : World) (n : Nat) (hn : a.toNat = n) (h0 : 0 ≤ a) (hs : s.size ≤ 140737488351232) (ha : a ≤ s.size) (hr : Hid (rdTerms s k 8 true n = none)) :
    Calls Tryz.prog 117 #[.string s, .int .i64 a, .int .i64 k] w fun e w' => (∃ n', e = .returned (.tuple #[.slice none 0 0, .int .i64 n', .bool false])) ∧ Below w.heap.size w w' :=
  (readTerms_any s a k w h0 hs ha).mono fun e w' ⟨hb, he⟩ => ⟨by unfold TermsPost at he; rw [hn, hr.out] at he; exact he, hb⟩
theorem readTerms_yes' (s : ByteArray) (a k : Int) (w : World) (n : Nat) (hn : a.toNat = n) (h0 : 0 ≤ a) (hs : s.size ≤ 140737488351232) (ha : a ≤ s.size) (ts : List Tm) (m : Nat) (hr : Hid (rdTerms s k 8 true n = some (ts, m))) :
    Calls Tryz.prog 117 #[.string s, .int .i64 a, .int .i64 k] w fun e w' => (∃ v, e = .returned (.tuple #[v, .int .i64 m, .bool true]) ∧ w'.ownsRow w.heap.size 166 4 v ts.length (tcells ts)) ∧ Below w.heap.size w w' :=
  (readTerms_any s a k w h0 hs ha).mono fun e w' ⟨hb, he⟩ => ⟨by unfold TermsPost at he; rw [hn, hr.out] at he; exact he, hb⟩
theorem cells_of_below {w w1 : World} {a b c d : Value} {t : TypeId} (hb : Below (w.alloc (.cells #[a, b, c, d] t)).heap.size (w.alloc (.cells #[a, b, c, d] t)) w1) :
    w1.cell? ⟨w.heap.size, 0, none⟩ = some a ∧ w1.cell? ⟨w.heap.size, 1, none⟩ = some b ∧ w1.cell? ⟨w.heap.size, 2, none⟩ = some c ∧ w1.cell? ⟨w.heap.size, 3, none⟩ = some d ∧
    (∀ o, w1.frozen? ⟨w.heap.size, o, none⟩ = false) ∧ w.heap.size < w1.heap.size := by
  have hz := hb.size
  refine ⟨?_, ?_, ?_, ?_, fun o => ?_, by simp at hz; omega⟩
  · rw [hb.cell (by simp)]; simp [go_sem]
  · rw [hb.cell (by simp)]; simp [go_sem]
  · rw [hb.cell (by simp)]; simp [go_sem]
  · rw [hb.cell (by simp)]; simp [go_sem]
  · rw [hb.frozen (by simp)]; simp [go_sem]
theorem below_first {w w' : World} {o : Obj} (h : Below (w.alloc o).heap.size (w.alloc o) w') : Below w.heap.size w w' :=
  ((Below.refl _ _).alloc (Nat.le_refl _) _).trans (h.mono (by simp))
theorem below_set4 {w w' : World} (h : Below w.heap.size w w') (a b c d : Value) :
    Below w.heap.size w ((((w'.setCell ⟨w.heap.size, 0, none⟩ a).setCell ⟨w.heap.size, 1, none⟩ b).setCell ⟨w.heap.size, 2, none⟩ c).setCell ⟨w.heap.size, 3, none⟩ d) :=
  (((h.setCell (Nat.le_refl _) _).setCell (Nat.le_refl _) _).setCell (Nat.le_refl _) _).setCell (Nat.le_refl _) _
theorem owns_set4 {w' : World} {B g : Nat} {e : TypeId} {size : Nat} {v : Value} {n : Nat} {xs : List Value} (h : w'.ownsRow B e size v n xs) (hg : g < B) (a b c d : Value) :
    ((((w'.setCell ⟨g, 0, none⟩ a).setCell ⟨g, 1, none⟩ b).setCell ⟨g, 2, none⟩ c).setCell ⟨g, 3, none⟩ d).ownsRow B e size v n xs :=
  ownsRow_setCell_below (ownsRow_setCell_below (ownsRow_setCell_below (ownsRow_setCell_below h hg _) hg _) hg _) hg _
set_option maxHeartbeats 1600000 in
theorem readPart_any (s : ByteArray) (a : Int) (w : World) (h0 : 0 ≤ a) (hs : s.size ≤ 140737488351232) (ha : a < s.size) :
    Calls Tryz.prog 95 #[.string s, .int .i64 a] w fun e w' => Below w.heap.size w w' ∧ PartPost s a.toNat w.heap.size e w' := by
  obtain ⟨q, rfl⟩ := Int.eq_ofNat_of_zero_le h0
  rw [Int.toNat_natCast]
  have hd1 : decide ((q : Int) < s.size) = true := by simpa using ha
  have eq1 : ((q : Int) + 1).toNat = q + 1 := by omega
  cases hp : hasP (byt s q)
  · cases ht : hasT (byt s q)
    · have HN : Hid (rdPart s q = none) := rdPart_none s q hp ht
      go_enter Tryz.func95, Tryz.ntmps95
      go_wp2_with (first
        | (go_at_call 113; refine (byteAt_any _ _ _ (by omega) hs).mono ?_; rintro e w' ⟨rfl, rfl⟩)
        | (go_at_call 114; refine (hasPrefix_any _ _).mono ?_; rintro e w' ⟨rfl, rfl⟩)
        | (go_at_call 116; refine (hasTerms_any _ _).mono ?_; rintro e w' ⟨rfl, rfl⟩))
      refine bodyPost_ret (v := .tuple #[.agg #[.int .i64 0, .int .i64 0, .int .i64 0, .slice none 0 0], .int .i64 q, .bool false]) (by simp [results, Tryz.results95, go_sem]) rfl ⟨?_, PartPost.no HN _ _ _ _⟩
      exact (Below.refl _ _).alloc (Nat.le_refl _) _
    · have hrd := rdPart_terms s q (by omega) hp ht
      cases hr : rdTerms s (byt s q) 8 true (q + 1) with
      | none =>
        have HN : Hid (rdPart s q = none) := by show rdPart s q = none; rw [hrd, hr]; rfl
        have HR : Hid (rdTerms s (byt s q) 8 true (q + 1) = none) := hr
        clear hr hrd
        go_enter Tryz.func95, Tryz.ntmps95
        go_wp2_with (first
          | (go_at_call 113; refine (byteAt_any _ _ _ (by omega) hs).mono ?_; rintro e w' ⟨rfl, rfl⟩)
          | (go_at_call 114; refine (hasPrefix_any _ _).mono ?_; rintro e w' ⟨rfl, rfl⟩)
          | (go_at_call 116; refine (hasTerms_any _ _).mono ?_; rintro e w' ⟨rfl, rfl⟩)
          | (go_at_call 117; refine (readTerms_no' _ _ _ _ (q + 1) (by omega) (by omega) hs (by omega) HR).mono ?_; rintro e w' ⟨⟨n', rfl⟩, hbel⟩; obtain ⟨c0, c1, c2, c3, hf, hz⟩ := cells_of_below hbel))
        refine bodyPost_ret (v := .tuple #[.agg #[.int .i64 (byt s q), .int .i64 0, .int .i64 0, .slice none 0 0], .int .i64 n', .bool false]) (by simp [results, Tryz.results95, go_sem, c0, c1, c2, c3]) rfl ⟨?_, PartPost.no HN _ _ _ _⟩
        exact below_set4 (below_first hbel) _ _ _ _
      | some r =>
        obtain ⟨ts, m⟩ := r
        have HN : Hid (rdPart s q = some (⟨byt s q, 0, 0, ts⟩, m)) := by show rdPart s q = _; rw [hrd, hr]; rfl
        have HR : Hid (rdTerms s (byt s q) 8 true (q + 1) = some (ts, m)) := hr
        clear hr hrd
        go_enter Tryz.func95, Tryz.ntmps95
        go_wp2_with (first
          | (go_at_call 113; refine (byteAt_any _ _ _ (by omega) hs).mono ?_; rintro e w' ⟨rfl, rfl⟩)
          | (go_at_call 114; refine (hasPrefix_any _ _).mono ?_; rintro e w' ⟨rfl, rfl⟩)
          | (go_at_call 116; refine (hasTerms_any _ _).mono ?_; rintro e w' ⟨rfl, rfl⟩)
          | (go_at_call 117; refine (readTerms_yes' _ _ _ _ (q + 1) (by omega) (by omega) hs (by omega) ts m HR).mono ?_; rintro e w' ⟨⟨v, rfl, hown⟩, hbel⟩; obtain ⟨c0, c1, c2, c3, hf, hz⟩ := cells_of_below hbel; obtain ⟨ao, cap, rfl⟩ := ownsRow_shape hown))
        refine bodyPost_ret (v := .tuple #[.agg #[.int .i64 (byt s q), .int .i64 0, .int .i64 0, .slice ao ts.length cap], .int .i64 m, .bool true]) (by simp [results, Tryz.results95, go_sem, c0, c1, c2, c3]) rfl ⟨?_, PartPost.yes (p := ⟨byt s q, 0, 0, ts⟩) HN ?_⟩
        · exact below_set4 (below_first hbel) _ _ _ _
        · exact ownsRow_base (owns_set4 hown (by simp) _ _ _ _) (by simp)
  · have hrd := rdPart_pref s q (by omega) hp
    cases hr : rdPref s (q + 1) with
    | none =>
      have HN : Hid (rdPart s q = none) := by show rdPart s q = none; rw [hrd, hr]; rfl
      have HR : Hid (rdPref s (q + 1) = none) := hr
      clear hr hrd
      go_enter Tryz.func95, Tryz.ntmps95
      go_wp2_with (first
        | (go_at_call 113; refine (byteAt_any _ _ _ (by omega) hs).mono ?_; rintro e w' ⟨rfl, rfl⟩)
        | (go_at_call 114; refine (hasPrefix_any _ _).mono ?_; rintro e w' ⟨rfl, rfl⟩)
        | (go_at_call 115; refine (readPrefix_no' _ _ _ (q + 1) (by omega) (by omega) hs (by omega) HR).mono ?_; rintro e w' ⟨rfl, hbel⟩; obtain ⟨c0, c1, c2, c3, hf, hz⟩ := cells_of_below hbel))
      refine bodyPost_ret (v := .tuple #[.agg #[.int .i64 (byt s q), .int .i64 0, .int .i64 0, .slice none 0 0], .int .i64 (q + 1), .bool false]) (by simp [results, Tryz.results95, go_sem, c0, c1, c2, c3, hz]) rfl ⟨?_, PartPost.no HN _ _ _ _⟩
      exact (below_set4 (below_first hbel) _ _ _ _).alloc (by simp [World.setCell]; omega) _
    | some r =>
      obtain ⟨b, l, m⟩ := r
      have HN : Hid (rdPart s q = some (⟨byt s q, b, l, []⟩, m)) := by show rdPart s q = _; rw [hrd, hr]; rfl
      have HR : Hid (rdPref s (q + 1) = some (b, l, m)) := hr
      clear hr hrd
      go_enter Tryz.func95, Tryz.ntmps95
      go_wp2_with (first
        | (go_at_call 113; refine (byteAt_any _ _ _ (by omega) hs).mono ?_; rintro e w' ⟨rfl, rfl⟩)
        | (go_at_call 114; refine (hasPrefix_any _ _).mono ?_; rintro e w' ⟨rfl, rfl⟩)
        | (go_at_call 115; refine (readPrefix_yes' _ _ _ (q + 1) (by omega) (by omega) hs (by omega) b l m HR).mono ?_; rintro e w' ⟨rfl, hbel⟩; obtain ⟨c0, c1, c2, c3, hf, hz⟩ := cells_of_below hbel))
      refine bodyPost_ret (v := .tuple #[.agg #[.int .i64 (byt s q), .int .i64 b, .int .i64 l, .slice none 0 0], .int .i64 m, .bool true]) (by simp [results, Tryz.results95, go_sem, c0, c1, c2, c3, hz]) rfl ⟨?_, PartPost.yes (p := ⟨byt s q, b, l, []⟩) HN (World.ownsRow_nil _ _ _ _)⟩
      exact (below_set4 (below_first hbel) _ _ _ _).alloc (by simp [World.setCell]; omega) _
end Go.Proofs.YtgkiknfpcbcnnaaGreat
namespace Go.Proofs.YtgkiknfpcbcnnaaGreat
open Go.RowKit
set_option maxRecDepth 20000
theorem rdTerms_bd (s : ByteArray) (k : Int) : ∀ (n : Nat) (f : Bool) (a : Nat) (ts : List Tm) (m : Nat), rdTerms s k n f a = some (ts, m) → a < m ∧ m ≤ s.size := by
  intro n
  induction n with
  | zero => intro f a ts m h; simp [rdTerms] at h
  | succ n ih =>
    intro f a ts m h
    by_cases hs : a < s.size ∧ mOK (byt s a) k f = true ∧ a + 1 + (vB (mWide (byt s a))).toNat ≤ s.size
    · cases hl : mLast (byt s a)
      · rw [rdTerms_more _ _ _ _ _ hs hl] at h
        cases hr : rdTerms s k n false (a + 1 + (vB (mWide (byt s a))).toNat) with
        | none => rw [hr] at h; cases h
        | some r =>
          rw [hr] at h
          obtain ⟨t1, m1⟩ := r
          have := ih _ _ _ _ hr
          simp at h
          omega
      · rw [rdTerms_last _ _ _ _ _ hs hl] at h
        simp at h
        omega
    · rw [rdTerms_stop _ _ _ _ _ hs] at h; cases h
theorem rdPref_bd (s : ByteArray) (a : Nat) (b l : Int) (m : Nat) (h : rdPref s a = some (b, l, m)) : a < m ∧ m ≤ s.size := by
  unfold rdPref at h
  split at h
  · simp only [] at h
    split at h
    · split at h <;> split at h <;> simp at h <;> omega
    · cases h
  · cases h
theorem rdPart_bd (s : ByteArray) (a : Nat) (p : Pt) (m : Nat) (h : rdPart s a = some (p, m)) : a < m ∧ m ≤ s.size ∧ 1 ≤ p.ty ∧ p.ty ≤ 5 := by
  by_cases ha : a < s.size
  · cases hp : hasP (byt s a)
    · cases ht : hasT (byt s a)
      · rw [rdPart_none s a hp ht] at h; cases h
      · rw [rdPart_terms s a ha hp ht] at h
        cases hr : rdTerms s (byt s a) 8 true (a + 1) with
        | none => rw [hr] at h; cases h
        | some r =>
          rw [hr] at h
          have := rdTerms_bd s _ _ _ _ _ _ hr
          simp only [Option.map_some, Option.some.injEq, Prod.mk.injEq] at h
          obtain ⟨rfl, rfl⟩ := h
          simp only [hasT, decide_eq_true_eq] at ht
          simp only []
          omega
    · rw [rdPart_pref s a ha hp] at h
      cases hr : rdPref s (a + 1) with
      | none => rw [hr] at h; cases h
      | some r =>
        rw [hr] at h
        obtain ⟨b, l, m'⟩ := r
        have := rdPref_bd s _ _ _ _ hr
        simp only [Option.map_some, Option.some.injEq, Prod.mk.injEq] at h
        obtain ⟨rfl, rfl⟩ := h
        simp only [hasP, decide_eq_true_eq] at hp
        simp only []
        omega
  · rw [rdPart_end s a ha] at h; cases h
structure RuleAt (w : World) (B : Nat) (v : Value) (qs : List (Pt × Value)) : Prop where
  parts : w.ownsRow B 140 4 v qs.length (pcells qs)
  terms : ∀ x ∈ qs, w.ownsRow B 166 4 x.2 x.1.ts.length (tcells x.1.ts)
  apart : qs.Pairwise fun x y => x.2.ownBlock = none ∨ x.2.ownBlock ≠ y.2.ownBlock
theorem owns_apart {w : World} {B B' e e' s s' : Nat} {v v' : Value} {n n' : Nat} {xs xs' : List Value} (h : w.ownsRow B e s v n xs) (h' : w.ownsRow B' e' s' v' n' xs') (hne : e ≠ e') : v.ownBlock = none ∨ v.ownBlock ≠ v'.ownBlock := by
  rcases h.2 with ⟨rfl, _⟩ | ⟨g, cap, cur, rfl, _, hg, _⟩
  · exact .inl rfl
  · rcases h'.2 with ⟨rfl, _⟩ | ⟨g', cap', cur', rfl, _, hg', _⟩
    · right; simp [Value.ownBlock]
    · right
      intro he
      simp only [Value.ownBlock, Option.some.injEq] at he
      subst he
      rw [hg] at hg'
      simp at hg'
      exact hne hg'.2
theorem RuleAt.nil (w : World) (B : Nat) : RuleAt w B (.slice none 0 0) [] := ⟨World.ownsRow_nil _ _ _ _, by simp, List.Pairwise.nil⟩
theorem RuleAt.below {w w' : World} {B : Nat} {v : Value} {qs : List (Pt × Value)} (h : RuleAt w B v qs) (hb : Below w.heap.size w w') : RuleAt w' B v qs :=
  ⟨ownsRow_below h.parts hb, fun x hx => ownsRow_below (h.terms x hx) hb, h.apart⟩
theorem RuleAt.base {w : World} {B B' : Nat} {v : Value} {qs : List (Pt × Value)} (h : RuleAt w B v qs) (hb : B' ≤ B) : RuleAt w B' v qs :=
  ⟨ownsRow_base h.parts hb, fun x hx => ownsRow_base (h.terms x hx) hb, h.apart⟩
theorem RuleAt.setLow {w : World} {B : Nat} {v : Value} {qs : List (Pt × Value)} (h : RuleAt w B v qs) {a : Addr} (ha : a.block < B) (u : Value) : RuleAt (w.setCell a u) B v qs :=
  ⟨ownsRow_setCell_below h.parts ha u, fun x hx => ownsRow_setCell_below (h.terms x hx) ha u, h.apart⟩
theorem RuleAt.snoc {w0 w w1 : World} {B : Nat} {v v' : Value} {qs : List (Pt × Value)} {p : Pt} {tv : Value} (h0 : RuleAt w0 B v qs) (hB : B ≤ w0.heap.size) (hb : Below w0.heap.size w0 w) (ht : w.ownsRow w0.heap.size 166 4 tv p.ts.length (tcells p.ts))
    (hg : w.grownBy w1 v.ownBlock) (hown : w1.ownsRow B 140 4 v' (qs.length + 1) (pcells qs ++ pcell (p, tv))) : RuleAt w1 B v' (qs ++ [(p, tv)]) := by
  have h := h0.below hb
  refine ⟨?_, ?_, ?_⟩
  · rw [pcells_snoc, List.length_append]; exact hown
  · intro x hx
    rw [List.mem_append, List.mem_singleton] at hx
    rcases hx with hx | rfl
    · exact (h.terms x hx).kept hg (owns_apart (h.terms x hx) h.parts (by decide))
    · exact (ownsRow_base ht hB).kept hg (owns_apart (ownsRow_base ht hB) h.parts (by decide))
  · rw [List.pairwise_append]
    refine ⟨h.apart, List.pairwise_singleton _ _, ?_⟩
    intro x hx y hy
    rw [List.mem_singleton] at hy
    subst hy
    cases hxb : x.2.ownBlock with
    | none => exact .inl rfl
    | some g =>
      right
      intro he
      have h1 := ((h0.terms x hx).lt g hxb).2
      have h2 := (ht.lt g he.symm).1
      omega
theorem rdParts_end (s : ByteArray) (n : Nat) (b : Int) (a : Nat) (h : ¬ a < s.size) : rdParts s (n + 1) b a = some [] := by unfold rdParts; rw [if_neg h]
theorem rdParts_no (s : ByteArray) (n : Nat) (b : Int) (a : Nat) (h : a < s.size) (hr : rdPart s a = none) : rdParts s n b a = none := by
  cases n with
  | zero => rfl
  | succ n => unfold rdParts; rw [if_pos h, hr]
theorem rdParts_low (s : ByteArray) (n : Nat) (b : Int) (a : Nat) (p : Pt) (m : Nat) (h : a < s.size) (hr : rdPart s a = some (p, m)) (hl : p.ty ≤ b) : rdParts s n b a = none := by
  cases n with
  | zero => rfl
  | succ n => unfold rdParts; rw [if_pos h, hr]; simp only []; rw [if_pos hl]
theorem rdParts_go (s : ByteArray) (n : Nat) (b : Int) (a : Nat) (p : Pt) (m : Nat) (h : a < s.size) (hr : rdPart s a = some (p, m)) (hl : ¬ p.ty ≤ b) : rdParts s (n + 1) b a = (rdParts s n p.ty m).map (p :: ·) := by
  conv => lhs; unfold rdParts
  rw [if_pos h, hr]; simp only []; rw [if_neg hl]
structure Come (s : ByteArray) (qs : List (Pt × Value)) (b : Int) (q : Nat) : Prop where
  low : (qs.length : Int) ≤ b
  high : b ≤ 5
  place : q ≤ s.size
  none : qs = [] → q = 0
  some : qs ≠ [] → 0 < q
  rest : rdParts s 7 0 0 = (rdParts s (7 - qs.length) b q).map (qs.map Prod.fst ++ ·)
theorem Come.start (s : ByteArray) : Come s [] 0 0 :=
  ⟨by simp, by omega, by omega, fun _ => rfl, fun h => absurd rfl h, by simp⟩
theorem Come.fail1 {s : ByteArray} {qs : List (Pt × Value)} {b : Int} {q : Nat} (h : Come s qs b q) (hq : q < s.size) (hr : rdPart s q = Option.none) : decS s = Option.none := by
  unfold decS; rw [if_neg (by omega), h.rest, rdParts_no _ _ _ _ hq hr]; rfl
theorem Come.fail2 {s : ByteArray} {qs : List (Pt × Value)} {b : Int} {q : Nat} (h : Come s qs b q) (hq : q < s.size) {p : Pt} {m : Nat} (hr : rdPart s q = Option.some (p, m)) (hl : p.ty ≤ b) : decS s = Option.none := by
  unfold decS; rw [if_neg (by omega), h.rest, rdParts_low _ _ _ _ _ _ hq hr hl]; rfl
theorem Come.fail3 {s : ByteArray} {b : Int} {q : Nat} (h : Come s [] b q) (hq : ¬ q < s.size) : decS s = Option.none := by
  unfold decS; rw [if_pos (by have := h.none rfl; omega)]
theorem Come.done {s : ByteArray} {qs : List (Pt × Value)} {b : Int} {q : Nat} (h : Come s qs b q) (hq : ¬ q < s.size) (hn : qs ≠ []) : decS s = Option.some (qs.map Prod.fst) := by
  unfold decS; rw [if_neg (by have := h.some hn; have := h.place; omega), h.rest]
  obtain ⟨n, hn⟩ : ∃ n, 7 - qs.length = n + 1 := ⟨6 - qs.length, by have := h.low; have := h.high; omega⟩
  rw [hn, rdParts_end _ _ _ _ hq]; simp
theorem Come.step {s : ByteArray} {qs : List (Pt × Value)} {b : Int} {q : Nat} (h : Come s qs b q) (hq : q < s.size) {p : Pt} {m : Nat} (hr : rdPart s q = Option.some (p, m)) (hl : ¬ p.ty ≤ b) (tv : Value) : Come s (qs ++ [(p, tv)]) p.ty m := by
  obtain ⟨b1, b2, b3, b4⟩ := rdPart_bd s q p m hr
  have := h.low
  have := h.high
  refine ⟨by simp; omega, b4, b2, fun e => by simp at e, fun _ => by omega, ?_⟩
  rw [h.rest]
  obtain ⟨n, hn⟩ : ∃ n, 7 - qs.length = n + 1 := ⟨6 - qs.length, by omega⟩
  have hn' : 7 - (qs ++ [(p, tv)]).length = n := by simp; omega
  rw [hn', hn, rdParts_go _ _ _ _ _ _ hq hr hl]
  cases rdParts s n p.ty m <;> simp
def DecPost (s : ByteArray) (B : Nat) (e : Ending) (w' : World) : Prop :=
  match decS s with
  | some ps => ∃ v qs, e = .returned (.tuple #[.agg #[v], .int .i64 0]) ∧ qs.map Prod.fst = ps ∧ RuleAt w' B v qs
  | none => e = .returned (.tuple #[.agg #[.slice none 0 0], .int .i64 1])
theorem DecPost.no {s : ByteArray} {B : Nat} {w' : World} (h : Hid (decS s = none)) : DecPost s B (.returned (.tuple #[.agg #[.slice none 0 0], .int .i64 1])) w' := by
  unfold DecPost; rw [h.out]
theorem DecPost.yes {s : ByteArray} {B : Nat} {w' : World} {v : Value} {qs : List (Pt × Value)} (h : Hid (decS s = some (qs.map Prod.fst))) (hr : RuleAt w' B v qs) : DecPost s B (.returned (.tuple #[.agg #[v], .int .i64 0])) w' := by
  unfold DecPost; rw [h.out]; exact ⟨v, qs, rfl, rfl, hr⟩
theorem readPart_no' (s : ByteArray) (q : Nat) (w : World) (hs : s.size ≤ 140737488351232) (ha : q < s.size) (hr : Hid (rdPart s q = none)) :
    Calls Tryz.prog 95 #[.string s, .int .i64 q] w fun e w' => (∃ x y z n, e = .returned (.tuple #[.agg #[.int .i64 x, .int .i64 y, .int .i64 z, .slice none 0 0], .int .i64 n, .bool false])) ∧ Below w.heap.size w w' :=
  (readPart_any s q w (by omega) hs (by omega)).mono fun e w' ⟨hb, he⟩ => ⟨by unfold PartPost at he; rw [Int.toNat_natCast, hr.out] at he; exact he, hb⟩
theorem readPart_yes' (s : ByteArray) (q : Nat) (w : World) (hs : s.size ≤ 140737488351232) (ha : q < s.size) (p : Pt) (m : Nat) (hr : Hid (rdPart s q = some (p, m))) :
    Calls Tryz.prog 95 #[.string s, .int .i64 q] w fun e w' => (∃ v, e = .returned (.tuple #[.agg #[.int .i64 p.ty, .int .i64 p.bt, .int .i64 p.ln, v], .int .i64 m, .bool true]) ∧ w'.ownsRow w.heap.size 166 4 v p.ts.length (tcells p.ts)) ∧ Below w.heap.size w w' :=
  (readPart_any s q w (by omega) hs (by omega)).mono fun e w' ⟨hb, he⟩ => ⟨by unfold PartPost at he; rw [Int.toNat_natCast, hr.out] at he; exact he, hb⟩
theorem pcell_one (p : Pt) (v : Value) (h : v.oneCell' = true) : ∀ u ∈ pcell (p, v), u.oneCell' = true := by
  intro u hu
  simp only [pcell, List.mem_cons, List.not_mem_nil, or_false] at hu
  rcases hu with rfl | rfl | rfl | rfl
  · rfl
  · rfl
  · rfl
  · exact h
theorem below_first' {w w' : World} {o : Obj} (h : Below (w.heap.size + 1) (w.alloc o) w') : Below w.heap.size w w' :=
  ((Below.refl _ _).alloc (Nat.le_refl _) _).trans (h.mono (by omega))
theorem cell_four_new' (w : World) (k : Nat) (a b c d : Value) (t : TypeId) (hk : w.heap.size = k) : ∀ j u, [a, b, c, d][j]? = some u → (w.alloc (.cells #[a, b, c, d] t)).cell? ((⟨k, 0, none⟩ : Addr).add j) = some u := by
  subst hk; exact cell_four_new w a b c d t
theorem below_alloc (w : World) (o : Obj) : Below w.heap.size w (w.alloc o) := (Below.refl _ _).alloc (Nat.le_refl _) _
theorem RuleAt.snoc2 {w0 w w1 : World} {B : Nat} {v v' : Value} {qs : List (Pt × Value)} {p : Pt} {tv : Value} {o o' : Obj} (h0 : RuleAt w0 B v qs) (hB : B ≤ w0.heap.size) (hb : Below w0.heap.size w0 w) (ht : w.ownsRow w0.heap.size 166 4 tv p.ts.length (tcells p.ts))
    (hg : ((w.alloc o).alloc o').grownBy w1 v.ownBlock) (hown : w1.ownsRow B 140 4 v' (qs.length + 1) (pcells qs ++ pcell (p, tv))) : RuleAt w1 B v' (qs ++ [(p, tv)]) :=
  h0.snoc hB ((hb.alloc hb.size _).alloc (by have := hb.size; simp; omega) _) ((ht.alloc _).alloc _) hg hown
theorem below_append2 {w0 w wr w1 : World} {B : Nat} {o o' : Obj} {e : TypeId} {size : Nat} {v : Value} {n : Nat} {xs : List Value} (hb : Below B w0 wr) (hown : wr.ownsRow B e size v n xs) (hb1 : Below wr.heap.size wr w) (hz : B ≤ wr.heap.size) (hg : ((w.alloc o).alloc o').grownBy w1 v.ownBlock) : Below B w0 w1 := by
  have h2 := hb1.size
  exact (((hb.trans (hb1.mono hz)).alloc (by omega) o).alloc (by simp; omega) o').grown hg (by simp; omega) (fun k hk => (hown.lt k hk).1)
theorem part_cell {w w1 : World} {o' : Obj} {a b c d : Value} {B : Nat} {e T : TypeId} {size : Nat} {v : Value} {n : Nat} {xs : List Value} (hg : ((w.alloc (.cells #[a, b, c, d] T)).alloc o').grownBy w1 v.ownBlock) (hown : w.ownsRow B e size v n xs) :
    w1.cell? ⟨w.heap.size, 0, none⟩ = some a := by
  refine hg.cell (by simp [go_sem]) ?_
  intro he
  have := (hown.lt _ he.symm).2
  simp at this
set_option maxHeartbeats 1600000 in
theorem decode_any (s : ByteArray) (w : World) (hs : s.size ≤ 140737488351232) :
    Calls Tryz.prog 73 #[.string s] w fun e w' => Below w.heap.size w w' ∧ DecPost s w.heap.size e w' := by
  obtain ⟨i0, hi, hz0, hz1, hz2⟩ := info_parts infoPart
  go_enter Tryz.func73, Tryz.ntmps73
  go_wp2
  go_loopw [4, 5, 6] (fun v b a wr => ∃ (qs : List (Pt × Value)) (bf : Int) (q : Nat), b = .int .i64 bf ∧ a = .int .i64 q ∧ RuleAt wr (w.heap.size + 1) v qs ∧ Below (w.heap.size + 1) (w.alloc (.cells #[.slice none 0 0] 114)) wr ∧ Come s qs bf q)
    (fun _ _ a _ => s.size - (intOf a).toNat)
  case atStart => exact ⟨[], 0, 0, rfl, rfl, RuleAt.nil _ _, Below.refl _ _, Come.start _⟩
  case round =>
    obtain ⟨qs, bf, q, rfl, rfl, hrule, hbel, hcome⟩ := hrel
    obtain ⟨ao, cap, rfl⟩ := ownsRow_shape hrule.parts
    have hz : w.heap.size + 1 ≤ wr.heap.size := by have := hbel.size; simp at this; omega
    have k0 : wr.cell? ⟨w.heap.size, 0, none⟩ = some (.slice none 0 0) := (hbel.cell (by simp)).trans (by simp [go_sem])
    have k1 : wr.frozen? ⟨w.heap.size, 0, none⟩ = false := (hbel.frozen (by simp)).trans (by simp [go_sem])
    have hq := hcome.place
    by_cases h1 : (q : Int) < s.size
    · cases hr : rdPart s q with
      | none =>
        have HD : Hid (decS s = none) := hcome.fail1 (by omega) hr
        have HR : Hid (rdPart s q = none) := hr
        clear hr hcome hrule
        go_wp2_with (go_at_call 95; refine (readPart_no' _ _ _ hs (by omega) HR).mono ?_; rintro e w' ⟨⟨x, y, z, n', rfl⟩, hb1⟩; have c0 : w'.cell? ⟨w.heap.size, 0, none⟩ = some (.slice none 0 0) := (hb1.cell (by simp; omega)).trans k0; have f0 : w'.frozen? ⟨w.heap.size, 0, none⟩ = false := (hb1.frozen (by simp; omega)).trans k1; have z1 : w.heap.size < w'.heap.size := by have := hb1.size; omega)
        refine bodyPost_ret (v := .tuple #[.agg #[.slice none 0 0], .int .i64 1]) (by simp [results, Tryz.results73, go_sem, c0, z1]) rfl ⟨?_, DecPost.no HD⟩
        exact ((below_first' hbel).trans (hb1.mono (by omega))).setCell (Nat.le_refl _) _ |>.alloc (by simp [World.setCell]; omega) _
      | some r =>
        obtain ⟨p, m⟩ := r
        have HR : Hid (rdPart s q = some (p, m)) := hr
        by_cases hl : p.ty ≤ bf
        · have HD : Hid (decS s = none) := hcome.fail2 (by omega) hr hl
          clear hr hcome hrule
          go_wp2_with (go_at_call 95; refine (readPart_yes' _ _ _ hs (by omega) p m HR).mono ?_; rintro e w' ⟨⟨tv, rfl, ht⟩, hb1⟩; obtain ⟨ta, tc, rfl⟩ := ownsRow_shape ht; have c0 : w'.cell? ⟨w.heap.size, 0, none⟩ = some (.slice none 0 0) := (hb1.cell (by simp; omega)).trans k0; have f0 : w'.frozen? ⟨w.heap.size, 0, none⟩ = false := (hb1.frozen (by simp; omega)).trans k1; have z1 : w.heap.size < w'.heap.size := by have := hb1.size; omega)
          refine bodyPost_ret (v := .tuple #[.agg #[.slice none 0 0], .int .i64 1]) (by simp [results, Tryz.results73, go_sem, c0, z1]) rfl ⟨?_, DecPost.no HD⟩
          exact ((below_first' hbel).trans (hb1.mono (by omega))).setCell (Nat.le_refl _) _ |>.alloc (by simp [World.setCell]; omega) _
        · have HC : Hid (∀ tv, Come s (qs ++ [(p, tv)]) p.ty m) := fun tv => hcome.step (by omega) hr hl tv
          have hpb := rdPart_bd s q p m hr
          have hlow := hcome.low
          have hhigh := hcome.high
          clear hr hcome
          have hlen : qs.length ≤ 5 := by omega
          go_wp2_with (first
            | (go_at_call 95; refine (readPart_yes' _ _ _ hs (by omega) p m HR).mono ?_; rintro e w' ⟨⟨tv, rfl, ht⟩, hb1⟩; obtain ⟨ta, tc, rfl⟩ := ownsRow_shape ht; have z1 : wr.heap.size ≤ w'.heap.size := hb1.size)
            | (at_builtin; refine wpList_append_own _ rfl _ _ 112 rfl (w.heap.size + 1) 140 i0 _ 4 48 Tryz.underlying112 hi hz0 hz1 hz2 rfl (by decide) _ _ _ rfl (((ownsRow_below hrule.parts hb1).alloc _).alloc _) ⟨w'.heap.size + 1, 0, none⟩ 1 1 (pcell (p, .slice ta p.ts.length tc)) rfl rfl (cell_four_new' _ _ _ _ _ _ _ (by simp)) (pcell_one _ _ rfl) (by unfold maxLen; omega) (by omega) (by simp; omega) ?_; intro v' w1 hown' hgrow _; have hrule2 := hrule.snoc2 hz hb1 ht hgrow hown'; have hbel2 := below_append2 hbel hrule.parts hb1 hz hgrow; have cT := part_cell hgrow (ownsRow_below hrule.parts hb1); clear hown' hgrow))
          go_roundw
          case rel => exact ⟨_, _, _, rfl, rfl, hrule2, hbel2, HC.out _⟩
          case measure => simp [intOf]; omega
    · by_cases hn : qs = []
      · subst hn
        have HD : Hid (decS s = none) := hcome.fail3 (by omega)
        clear hcome hrule
        go_wp2
        refine bodyPost_ret (v := .tuple #[.agg #[.slice none 0 0], .int .i64 1]) (by simp [results, Tryz.results73, go_sem, k0]) rfl ⟨?_, DecPost.no HD⟩
        exact (below_first' hbel).setCell (Nat.le_refl _) _
      · have HD : Hid (decS s = some (qs.map Prod.fst)) := hcome.done (by omega) hn
        have hne : ((qs.length : Int) == 0) = false := by cases qs with
          | nil => exact absurd rfl hn
          | cons a l => simp; omega
        clear hcome hn
        go_wp2
        refine bodyPost_ret (v := .tuple #[.agg #[.slice ao qs.length cap], .int .i64 0]) (by simp [results, Tryz.results73, go_sem, k0]) rfl ⟨?_, DecPost.yes HD ((hrule.setLow (by simp) _).base (by omega))⟩
        exact (below_first' hbel).setCell (Nat.le_refl _) _
end Go.Proofs.YtgkiknfpcbcnnaaGreat
