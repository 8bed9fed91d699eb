import Derived.WalkKit
namespace Go.Proofs.Ytkdcjcemeipkjaa

structure Tm where
  an : Bool
  wd : Bool
  op : Int
  vl : Int

structure Pt where
  ty : Int
  bt : Int
  ln : Int
  ts : List Tm

/-- The byte at a place, nought behind the end. -/
def byt (s : ByteArray) (a : Int) : Int := if h : a.toNat < s.size then (s[a.toNat].toNat : Int) else 0

theorem byt_nonneg (s : ByteArray) (a : Int) : 0 ≤ byt s a := by
  unfold byt; split <;> omega

theorem byt_le (s : ByteArray) (a : Int) : byt s a ≤ 255 := by
  unfold byt
  split
  · rename_i h
    have := (s[a.toNat]).toNat_lt
    omega
  · omega

/-- A number of c bytes. -/
def num (s : ByteArray) (a : Int) : Nat → Int
  | 0 => 0
  | c + 1 => num s a c * 256 + byt s (a + c)

theorem num_bd (s : ByteArray) (a : Int) (c : Nat) (h : c ≤ 2) : 0 ≤ num s a c ∧ num s a c ≤ 65535 ∧ (c ≤ 1 → num s a c ≤ 255) ∧ (c = 0 → num s a c = 0) := by
  have b0 := byt_nonneg s
  have b1 := byt_le s
  match c, h with
  | 0, _ => simp [num]
  | 1, _ => have := b0 (a + (0:Nat)); have := b1 (a + (0:Nat)); simp only [num]; omega
  | 2, _ => have := b0 (a + (0:Nat)); have := b1 (a + (0:Nat)); have := b0 (a + (1:Nat)); have := b1 (a + (1:Nat)); simp only [num]; omega

/-- May a term begin with these marks? -/
def mOK (m k : Int) (f : Bool) : Bool := (if k = 5 then decide (m % 64 ≤ 3) else (decide (m % 16 < 8) && decide (m % 64 < 32))) && (!f || decide (m / 64 % 2 = 0))
def mWide (m : Int) : Bool := decide (m / 16 % 2 = 1)
def mAnd (m : Int) : Bool := decide (m / 64 % 2 = 1)
def mLast (m : Int) : Bool := decide (128 ≤ m)
def mOp (m k : Int) : Int := if k = 5 then m % 4 else m % 8
def opM (k : Int) : Int := if k = 5 then 3 else 7
def mxV (w : Bool) : Int := if w then 65535 else 255
def vB (w : Bool) : Int := if w then 2 else 1
def pB (l : Int) : Int := if 8 < l then 2 else if 0 < l then 1 else 0

theorem byte_cases {p : Int → Prop} (h : ∀ n : Fin 256, p (n.val : Int)) (m : Int) (h0 : 0 ≤ m) (h1 : m ≤ 255) : p m := by
  have := h ⟨m.toNat, by omega⟩
  have e : ((m.toNat : Nat) : Int) = m := by omega
  simpa [e] using this

theorem and16 (m : Int) (h0 : 0 ≤ m) (h1 : m ≤ 255) : (bits BinOp.and IntKind.i64 m 16 != 0) = mWide m :=
  byte_cases (p := fun m => (bits BinOp.and IntKind.i64 m 16 != 0) = mWide m) (by decide +kernel) m h0 h1
theorem and64 (m : Int) (h0 : 0 ≤ m) (h1 : m ≤ 255) : (bits BinOp.and IntKind.i64 m 64 != 0) = mAnd m :=
  byte_cases (p := fun m => (bits BinOp.and IntKind.i64 m 64 != 0) = mAnd m) (by decide +kernel) m h0 h1
theorem and64z (m : Int) (h0 : 0 ≤ m) (h1 : m ≤ 255) : (bits BinOp.and IntKind.i64 m 64 == 0) = !mAnd m :=
  byte_cases (p := fun m => (bits BinOp.and IntKind.i64 m 64 == 0) = !mAnd m) (by decide +kernel) m h0 h1
theorem and128 (m : Int) (h0 : 0 ≤ m) (h1 : m ≤ 255) : (bits BinOp.and IntKind.i64 m 128 != 0) = mLast m :=
  byte_cases (p := fun m => (bits BinOp.and IntKind.i64 m 128 != 0) = mLast m) (by decide +kernel) m h0 h1
theorem and3 (m : Int) (h0 : 0 ≤ m) (h1 : m ≤ 255) : bits BinOp.and IntKind.i64 m 3 = m % 4 :=
  byte_cases (p := fun m => bits BinOp.and IntKind.i64 m 3 = m % 4) (by decide +kernel) m h0 h1
theorem and7 (m : Int) (h0 : 0 ≤ m) (h1 : m ≤ 255) : bits BinOp.and IntKind.i64 m 7 = m % 8 :=
  byte_cases (p := fun m => bits BinOp.and IntKind.i64 m 7 = m % 8) (by decide +kernel) m h0 h1
theorem andn5 (m : Int) (h0 : 0 ≤ m) (h1 : m ≤ 255) : (bits BinOp.andNot IntKind.i64 m (bits BinOp.or IntKind.i64 192 3) != 0) = !decide (m % 64 ≤ 3) :=
  byte_cases (p := fun m => (bits BinOp.andNot IntKind.i64 m (bits BinOp.or IntKind.i64 192 3) != 0) = !decide (m % 64 ≤ 3)) (by decide +kernel) m h0 h1
theorem andn3 (m : Int) (h0 : 0 ≤ m) (h1 : m ≤ 255) : (bits BinOp.andNot IntKind.i64 m (bits BinOp.or IntKind.i64 208 7) != 0) = !(decide (m % 16 < 8) && decide (m % 64 < 32)) :=
  byte_cases (p := fun m => (bits BinOp.andNot IntKind.i64 m (bits BinOp.or IntKind.i64 208 7) != 0) = !(decide (m % 16 < 8) && decide (m % 64 < 32))) (by decide +kernel) m h0 h1

/-- The parts' and terms' cells. -/
def tcell (t : Tm) : List Value := [.bool t.an, .bool t.wd, .int .i64 t.op, .int .i64 t.vl]
def tcells (l : List Tm) : List Value := l.flatMap tcell
def pcell (q : Pt × Value) : List Value := [.int .i64 q.1.ty, .int .i64 q.1.bt, .int .i64 q.1.ln, q.2]
def pcells (l : List (Pt × Value)) : List Value := l.flatMap pcell

theorem tcells_len (l : List Tm) : (tcells l).length = l.length * 4 := by
  induction l with
  | nil => rfl
  | cons a l ih => simp only [tcells, List.flatMap_cons, List.length_append] at ih ⊢; rw [ih]; simp [tcell]; omega
theorem pcells_len (l : List (Pt × Value)) : (pcells l).length = l.length * 4 := by
  induction l with
  | nil => rfl
  | cons a l ih => simp only [pcells, List.flatMap_cons, List.length_append] at ih ⊢; rw [ih]; simp [pcell]; omega
theorem tcells_snoc (l : List Tm) (t : Tm) : tcells (l ++ [t]) = tcells l ++ tcell t := by simp [tcells]
theorem pcells_snoc (l : List (Pt × Value)) (t : Pt × Value) : pcells (l ++ [t]) = pcells l ++ pcell t := by simp [pcells]

/-- How terms are read. -/
def rdTerms (s : ByteArray) (k : Int) : Nat → Bool → Nat → Option (List Tm × Nat)
  | 0, _, _ => none
  | n + 1, f, a =>
    let m := byt s a
    let c := (vB (mWide m)).toNat
    if a < s.size ∧ mOK m k f = true ∧ a + 1 + c ≤ s.size then
      let t : Tm := ⟨mAnd m, mWide m, mOp m k, num s (a + 1) c⟩
      if mLast m then some ([t], a + 1 + c) else (rdTerms s k n false (a + 1 + c)).map fun r => (t :: r.1, r.2)
    else none

def prefOK (b l : Int) : Bool := decide (0 ≤ l) && decide (l ≤ 16) && decide (0 ≤ b) && decide (b ≤ 65535) && decide (b % (2 : Int) ^ (16 - l).toNat = 0)

/-- How a prefix is read: bits, length, the place behind it. -/
def rdPref (s : ByteArray) (a : Nat) : Option (Int × Int × Nat) :=
  if a < s.size then
    let l := byt s a
    let c := (pB l).toNat
    if a + 1 + c ≤ s.size then
      let b := if c = 1 then num s (a + 1) c * 256 else num s (a + 1) c
      if prefOK b l then some (b, l, a + 1 + c) else none
    else none
  else none

def hasP (k : Int) : Bool := decide (k = 1 ∨ k = 2)
def hasT (k : Int) : Bool := decide (k = 3 ∨ k = 4 ∨ k = 5)

def rdPart (s : ByteArray) (a : Nat) : Option (Pt × Nat) :=
  if a < s.size then
    let k := byt s a
    if hasP k then (rdPref s (a + 1)).map fun r => (⟨k, r.1, r.2.1, []⟩, r.2.2)
    else if hasT k then (rdTerms s k 8 true (a + 1)).map fun r => (⟨k, 0, 0, r.1⟩, r.2)
    else none
  else none

/-- How a rule is read, from a place on, behind a type (in at most n parts). -/
def rdParts (s : ByteArray) : Nat → Int → Nat → Option (List Pt)
  | 0, _, _ => none
  | n + 1, b, a =>
    if a < s.size then
      match rdPart s a with
      | none => none
      | some (p, e) => if p.ty ≤ b then none else (rdParts s n p.ty e).map (p :: ·)
    else some []

/-- flow.Decode. -/
def decS (s : ByteArray) : Option (List Pt) := if s.size = 0 then none else rdParts s 7 0 0
end Go.Proofs.Ytkdcjcemeipkjaa
