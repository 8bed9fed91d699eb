import Derived.Test.YtkdcjcemeipkjaaDec
import Derived.Laws.IdiomStrings
import Derived.StillTactics
import Derived.Deep.RegionHeld3
namespace Go.Proofs.Ytkdcjcemeipkjaa
open Go.RowKit
set_option maxRecDepth 20000

/-- A string of one byte. -/
def ch (n : Int) : ByteArray := ⟨#[UInt8.ofNat n.toNat]⟩

theorem ch_size (n : Int) : (ch n).size = 1 := rfl

theorem conv_one (u : World) (x : Int) (h0 : 0 ≤ x) (h1 : x ≤ 255) :
    (convert 90 9 (.slice (some ⟨u.heap.size, 0, none⟩) 1 1)).run Try.prog (u.alloc (.cells #[.int .u8 x] 5)) = .ok (.string (ch x)) (u.alloc (.cells #[.int .u8 x] 5)) := by
  have e : ((UInt8.ofNat x.toNat).toNat : Int) = x := by
    rw [UInt8.toNat_ofNat_of_lt' (by show x.toNat < 256; omega)]; omega
  exact run_convert_bytes_back (P := Try.prog) (u.alloc (.cells #[.int .u8 x] 5)) 90 9 5 ⟨u.heap.size, 0, none⟩ 1 [UInt8.ofNat x.toNat] Try.underlying90 Try.underlying5 Try.underlying9 (by
    intro j hj
    match j, hj with
    | 0, _ => simp [Addr.add]; omega)

theorem and255 (n : Int) (h0 : 0 ≤ n) (h1 : n ≤ 65535) : bits BinOp.and IntKind.i64 n 255 = n % 256 := by
  obtain ⟨k, rfl⟩ := Int.eq_ofNat_of_zero_le h0
  have := bits_mask k 8 (by omega) (by omega)
  simpa using this

theorem app_nil (a : ByteArray) : a ++ (⟨#[]⟩ : ByteArray) = a := by
  apply ByteArray.ext; simp [ByteArray.data_append]

theorem writeNumber_zero (n : Int) (w : World) :
    Calls Try.prog 50 #[.int .i64 n, .int .i64 0] w fun e w' => e = .returned (.string ⟨#[]⟩) ∧ Below w.heap.size w w' := by
  go_enter Try.func50, Try.ntmps50
  go_wp2
  refine wp_loop_rounds 1 ?_
  rw [rounds_succ]
  go_wp2
  go_ret
  exact ⟨rfl, Below.refl _ _⟩

set_option maxHeartbeats 400000 in
theorem writeNumber_one (n : Int) (w : World) (h0 : 0 ≤ n) (h1 : n ≤ 255) :
    Calls Try.prog 50 #[.int .i64 n, .int .i64 1] w fun e w' => e = .returned (.string (ch n)) ∧ Below w.heap.size w w' := by
  have e1 : bits BinOp.and IntKind.i64 n 255 = n := by rw [and255 n h0 (by omega)]; omega
  have hc := conv_one w n h0 h1
  have e2 : n % 256 = n := by omega
  have e3 := ch_size n
  go_enter Try.func50, Try.ntmps50
  go_wp2
  refine wp_loop_rounds 2 ?_
  rw [rounds_succ]
  go_wp2
  rw [rounds_succ]
  go_wp2
  go_ret
  exact ⟨congrArg (fun b => Ending.returned (.string b)) (app_nil _), (Below.refl _ _).alloc (Nat.le_refl _) _⟩

set_option maxHeartbeats 400000 in
theorem writeNumber_two (n : Int) (w : World) (h0 : 0 ≤ n) (h1 : n ≤ 65535) :
    Calls Try.prog 50 #[.int .i64 n, .int .i64 2] w fun e w' => e = .returned (.string (ch (n / 256) ++ ch (n % 256))) ∧ Below w.heap.size w w' := by
  have e1 := and255 n h0 h1
  have e1' : bits BinOp.and IntKind.i64 (n / 256) 255 = n / 256 := by rw [and255 _ (by omega) (by omega)]; omega
  have hc := conv_one w (n % 256) (by omega) (by omega)
  have hc' := conv_one (w.alloc (.cells #[.int .u8 (n % 256)] 5)) (n / 256) (by omega) (by omega)
  simp only [World.size_alloc] at hc'
  have e2 : n / 256 % 256 = n / 256 := by omega
  have e4 : n % 256 % 256 = n % 256 := by omega
  have e3 := ch_size (n % 256)
  have e3' := ch_size (n / 256)
  go_enter Try.func50, Try.ntmps50
  go_wp2
  refine wp_loop_rounds 3 ?_
  rw [rounds_succ]
  go_wp2
  rw [rounds_succ]
  go_wp2
  rw [rounds_succ]
  go_wp2
  go_ret
  exact ⟨congrArg (fun b => Ending.returned (.string (ch (n / 256) ++ b))) (app_nil _), ((Below.refl _ _).alloc (Nat.le_refl _) _).alloc (by simp) _⟩

def wNum (n c : Int) : ByteArray := if c = 0 then ⟨#[]⟩ else if c = 1 then ch n else ch (n / 256) ++ ch (n % 256)

theorem wNum_size (n c : Int) (h0 : 0 ≤ c) (h2 : c ≤ 2) : ((wNum n c).size : Int) = c := by
  unfold wNum
  by_cases a : c = 0
  · rw [if_pos a, a]; rfl
  · rw [if_neg a]
    by_cases b : c = 1
    · rw [if_pos b, b]; rfl
    · rw [if_neg b, ByteArray.size_append]
      simp only [ch_size]
      omega

theorem writeNumber_any (n c : Int) (w : World) (h0 : 0 ≤ n) (h1 : n ≤ 65535) (c0 : 0 ≤ c) (c2 : c ≤ 2) (h : c = 1 → n ≤ 255) :
    Calls Try.prog 50 #[.int .i64 n, .int .i64 c] w fun e w' => e = .returned (.string (wNum n c)) ∧ Below w.heap.size w w' := by
  unfold wNum
  by_cases a : c = 0
  · rw [if_pos a]; subst a; exact writeNumber_zero n w
  by_cases b : c = 1
  · rw [if_neg a, if_pos b]; subst b; exact writeNumber_one n w h0 (h rfl)
  rw [if_neg a, if_neg b]
  obtain rfl : c = 2 := by omega
  exact writeNumber_two n w h0 h1

/-- The same, behind whatever has been made since W0. -/
theorem writeNumber_b (n c : Int) (w W0 : World) (h0 : 0 ≤ n) (h1 : n ≤ 65535) (c0 : 0 ≤ c) (c2 : c ≤ 2) (h : c = 1 → n ≤ 255) (hb : Below W0.heap.size W0 w) :
    Calls Try.prog 50 #[.int .i64 n, .int .i64 c] w fun e w' => e = .returned (.string (wNum n c)) ∧ Below W0.heap.size W0 w' :=
  (writeNumber_any n c w h0 h1 c0 c2 h).mono fun _ _ h => ⟨h.1, hb.trans (h.2.mono hb.size)⟩

theorem box4 {w w' : World} {a b c d : Value} {t : TypeId} (hb : Below (w.alloc (.cells #[a, b, c, d] t)).heap.size (w.alloc (.cells #[a, b, c, d] t)) w') :
    w'.cell? ⟨w.heap.size, 1, none⟩ = some b ∧ w'.cell? ⟨w.heap.size, 3, none⟩ = some d ∧ Below (w.alloc (.cells #[a, b, c, d] t)).heap.size (w.alloc (.cells #[a, b, c, d] t)) w' :=
  ⟨(cells_of_below hb).2.1, (cells_of_below hb).2.2.2.1, hb⟩

theorem or64 (m : Int) (h0 : 0 ≤ m) (h1 : m ≤ 7) : bits BinOp.or IntKind.i64 m 64 = m + 64 :=
  byte_cases (p := fun m => m ≤ 7 → bits BinOp.or IntKind.i64 m 64 = m + 64) (by decide +kernel) m h0 (by omega) h1
theorem or16 (m : Int) (h0 : 0 ≤ m) (h1 : m ≤ 255) (h : m / 16 % 2 = 0) : bits BinOp.or IntKind.i64 m 16 = m + 16 :=
  byte_cases (p := fun m => m / 16 % 2 = 0 → bits BinOp.or IntKind.i64 m 16 = m + 16) (by decide +kernel) m h0 h1 h
theorem or128 (m : Int) (h0 : 0 ≤ m) (h1 : m ≤ 127) : bits BinOp.or IntKind.i64 m 128 = m + 128 :=
  byte_cases (p := fun m => m ≤ 127 → bits BinOp.or IntKind.i64 m 128 = m + 128) (by decide +kernel) m h0 (by omega) h1

def b2 (b : Bool) (n : Int) : Int := if b then n else 0
/-- A term's marks. -/
def mk (t : Tm) (last : Bool) : Int := t.op + b2 t.an 64 + b2 t.wd 16 + b2 last 128
def wTerm (t : Tm) (last : Bool) : ByteArray := ch (mk t last) ++ wNum t.vl (vB t.wd)

theorem wTerm_eq (t : Tm) (l : Bool) (m : Int) (h : m = mk t l) : wNum m 1 ++ wNum t.vl (vB t.wd) = wTerm t l := by
  subst h; simp [wTerm, wNum]

set_option maxHeartbeats 400000 in
theorem writeTerm_000 (op vl : Int) (w : World) (o0 : 0 ≤ op) (o1 : op ≤ 7) (v0 : 0 ≤ vl) (v1 : vl ≤ 65535) (v2 : vB false = 1 → vl ≤ 255) :
    Calls Try.prog 52 #[.agg #[.bool false, .bool false, .int .i64 op, .int .i64 vl], .bool false] w fun e w' => e = .returned (.string (wTerm ⟨false, false, op, vl⟩ false)) ∧ Below w.heap.size w w' := by
  have b0 := vB_bd false
  have n0 : ∀ m : Int, (wNum m 1).size = 1 := fun m => by have := wNum_size m 1 (by omega) (by omega); omega
  have n1 : (wNum vl (vB false)).size = 1 := by have := wNum_size vl (vB false) (by omega) (by omega); simp only [vB] at this ⊢; simp at this ⊢; omega
  skip
  go_enter Try.func52, Try.ntmps52
  go_wp2
  go_region_held3 (fun w' => w'.cell? ⟨w.heap.size, 1, none⟩ = some (.bool false) ∧ w'.cell? ⟨w.heap.size, 3, none⟩ = some (.int .i64 vl) ∧ Below (w.alloc (.cells #[.bool false, .bool false, .int .i64 op, .int .i64 vl] 63)).heap.size (w.alloc (.cells #[.bool false, .bool false, .int .i64 op, .int .i64 vl] 63)) w')
    (first | exact box4 (by assumption) | exact box4 (Below.refl _ _) | exact box4 (Below.refl _ _).drew)
    (first
      | (go_at_call 50; refine (writeNumber_b _ _ _ (w.alloc (.cells #[.bool false, .bool false, .int .i64 op, .int .i64 vl] 63)) (by omega) (by omega) (by omega) (by omega) (by omega) (by go_split_ands; assumption)).mono ?_; rintro e w1 ⟨rfl, hb1⟩)
      | (go_at_call 67; refine (valueBytes_any _ _).mono ?_; rintro e w1 ⟨rfl, rfl⟩))
  all_goals go_wp2
  all_goals go_ret
  all_goals exact ⟨congrArg (fun b => Ending.returned (.string b)) (wTerm_eq ⟨false, false, op, vl⟩ false _ (by simp [mk, b2])), below_first (by assumption)⟩

set_option maxHeartbeats 400000 in
theorem writeTerm_001 (op vl : Int) (w : World) (o0 : 0 ≤ op) (o1 : op ≤ 7) (v0 : 0 ≤ vl) (v1 : vl ≤ 65535) (v2 : vB false = 1 → vl ≤ 255) :
    Calls Try.prog 52 #[.agg #[.bool false, .bool false, .int .i64 op, .int .i64 vl], .bool true] w fun e w' => e = .returned (.string (wTerm ⟨false, false, op, vl⟩ true)) ∧ Below w.heap.size w w' := by
  have b0 := vB_bd false
  have n0 : ∀ m : Int, (wNum m 1).size = 1 := fun m => by have := wNum_size m 1 (by omega) (by omega); omega
  have n1 : (wNum vl (vB false)).size = 1 := by have := wNum_size vl (vB false) (by omega) (by omega); simp only [vB] at this ⊢; simp at this ⊢; omega
  have e128 := or128 (op) (by omega) (by omega)
  go_enter Try.func52, Try.ntmps52
  go_wp2
  go_region_held3 (fun w' => w'.cell? ⟨w.heap.size, 1, none⟩ = some (.bool false) ∧ w'.cell? ⟨w.heap.size, 3, none⟩ = some (.int .i64 vl) ∧ Below (w.alloc (.cells #[.bool false, .bool false, .int .i64 op, .int .i64 vl] 63)).heap.size (w.alloc (.cells #[.bool false, .bool false, .int .i64 op, .int .i64 vl] 63)) w')
    (first | exact box4 (by assumption) | exact box4 (Below.refl _ _) | exact box4 (Below.refl _ _).drew)
    (first
      | (go_at_call 50; refine (writeNumber_b _ _ _ (w.alloc (.cells #[.bool false, .bool false, .int .i64 op, .int .i64 vl] 63)) (by omega) (by omega) (by omega) (by omega) (by omega) (by go_split_ands; assumption)).mono ?_; rintro e w1 ⟨rfl, hb1⟩)
      | (go_at_call 67; refine (valueBytes_any _ _).mono ?_; rintro e w1 ⟨rfl, rfl⟩))
  all_goals go_wp2
  all_goals go_ret
  all_goals exact ⟨congrArg (fun b => Ending.returned (.string b)) (wTerm_eq ⟨false, false, op, vl⟩ true _ (by simp [mk, b2])), below_first (by assumption)⟩

set_option maxHeartbeats 400000 in
theorem writeTerm_010 (op vl : Int) (w : World) (o0 : 0 ≤ op) (o1 : op ≤ 7) (v0 : 0 ≤ vl) (v1 : vl ≤ 65535) (v2 : vB true = 1 → vl ≤ 255) :
    Calls Try.prog 52 #[.agg #[.bool false, .bool true, .int .i64 op, .int .i64 vl], .bool false] w fun e w' => e = .returned (.string (wTerm ⟨false, true, op, vl⟩ false)) ∧ Below w.heap.size w w' := by
  have b0 := vB_bd true
  have n0 : ∀ m : Int, (wNum m 1).size = 1 := fun m => by have := wNum_size m 1 (by omega) (by omega); omega
  have n1 : (wNum vl (vB true)).size = 2 := by have := wNum_size vl (vB true) (by omega) (by omega); simp only [vB] at this ⊢; simp at this ⊢; omega
  have e16 := or16 (op) (by omega) (by omega) (by omega)
  go_enter Try.func52, Try.ntmps52
  go_wp2
  go_region_held3 (fun w' => w'.cell? ⟨w.heap.size, 1, none⟩ = some (.bool true) ∧ w'.cell? ⟨w.heap.size, 3, none⟩ = some (.int .i64 vl) ∧ Below (w.alloc (.cells #[.bool false, .bool true, .int .i64 op, .int .i64 vl] 63)).heap.size (w.alloc (.cells #[.bool false, .bool true, .int .i64 op, .int .i64 vl] 63)) w')
    (first | exact box4 (by assumption) | exact box4 (Below.refl _ _) | exact box4 (Below.refl _ _).drew)
    (first
      | (go_at_call 50; refine (writeNumber_b _ _ _ (w.alloc (.cells #[.bool false, .bool true, .int .i64 op, .int .i64 vl] 63)) (by omega) (by omega) (by omega) (by omega) (by omega) (by go_split_ands; assumption)).mono ?_; rintro e w1 ⟨rfl, hb1⟩)
      | (go_at_call 67; refine (valueBytes_any _ _).mono ?_; rintro e w1 ⟨rfl, rfl⟩))
  all_goals go_wp2
  all_goals go_ret
  all_goals exact ⟨congrArg (fun b => Ending.returned (.string b)) (wTerm_eq ⟨false, true, op, vl⟩ false _ (by simp [mk, b2])), below_first (by assumption)⟩

set_option maxHeartbeats 400000 in
theorem writeTerm_011 (op vl : Int) (w : World) (o0 : 0 ≤ op) (o1 : op ≤ 7) (v0 : 0 ≤ vl) (v1 : vl ≤ 65535) (v2 : vB true = 1 → vl ≤ 255) :
    Calls Try.prog 52 #[.agg #[.bool false, .bool true, .int .i64 op, .int .i64 vl], .bool true] w fun e w' => e = .returned (.string (wTerm ⟨false, true, op, vl⟩ true)) ∧ Below w.heap.size w w' := by
  have b0 := vB_bd true
  have n0 : ∀ m : Int, (wNum m 1).size = 1 := fun m => by have := wNum_size m 1 (by omega) (by omega); omega
  have n1 : (wNum vl (vB true)).size = 2 := by have := wNum_size vl (vB true) (by omega) (by omega); simp only [vB] at this ⊢; simp at this ⊢; omega
  have e16 := or16 (op) (by omega) (by omega) (by omega)
  have e128 := or128 (op + 16) (by omega) (by omega)
  go_enter Try.func52, Try.ntmps52
  go_wp2
  go_region_held3 (fun w' => w'.cell? ⟨w.heap.size, 1, none⟩ = some (.bool true) ∧ w'.cell? ⟨w.heap.size, 3, none⟩ = some (.int .i64 vl) ∧ Below (w.alloc (.cells #[.bool false, .bool true, .int .i64 op, .int .i64 vl] 63)).heap.size (w.alloc (.cells #[.bool false, .bool true, .int .i64 op, .int .i64 vl] 63)) w')
    (first | exact box4 (by assumption) | exact box4 (Below.refl _ _) | exact box4 (Below.refl _ _).drew)
    (first
      | (go_at_call 50; refine (writeNumber_b _ _ _ (w.alloc (.cells #[.bool false, .bool true, .int .i64 op, .int .i64 vl] 63)) (by omega) (by omega) (by omega) (by omega) (by omega) (by go_split_ands; assumption)).mono ?_; rintro e w1 ⟨rfl, hb1⟩)
      | (go_at_call 67; refine (valueBytes_any _ _).mono ?_; rintro e w1 ⟨rfl, rfl⟩))
  all_goals go_wp2
  all_goals go_ret
  all_goals exact ⟨congrArg (fun b => Ending.returned (.string b)) (wTerm_eq ⟨false, true, op, vl⟩ true _ (by simp [mk, b2])), below_first (by assumption)⟩

set_option maxHeartbeats 400000 in
theorem writeTerm_100 (op vl : Int) (w : World) (o0 : 0 ≤ op) (o1 : op ≤ 7) (v0 : 0 ≤ vl) (v1 : vl ≤ 65535) (v2 : vB false = 1 → vl ≤ 255) :
    Calls Try.prog 52 #[.agg #[.bool true, .bool false, .int .i64 op, .int .i64 vl], .bool false] w fun e w' => e = .returned (.string (wTerm ⟨true, false, op, vl⟩ false)) ∧ Below w.heap.size w w' := by
  have b0 := vB_bd false
  have n0 : ∀ m : Int, (wNum m 1).size = 1 := fun m => by have := wNum_size m 1 (by omega) (by omega); omega
  have n1 : (wNum vl (vB false)).size = 1 := by have := wNum_size vl (vB false) (by omega) (by omega); simp only [vB] at this ⊢; simp at this ⊢; omega
  have e64 := or64 op o0 o1
  go_enter Try.func52, Try.ntmps52
  go_wp2
  go_region_held3 (fun w' => w'.cell? ⟨w.heap.size, 1, none⟩ = some (.bool false) ∧ w'.cell? ⟨w.heap.size, 3, none⟩ = some (.int .i64 vl) ∧ Below (w.alloc (.cells #[.bool true, .bool false, .int .i64 op, .int .i64 vl] 63)).heap.size (w.alloc (.cells #[.bool true, .bool false, .int .i64 op, .int .i64 vl] 63)) w')
    (first | exact box4 (by assumption) | exact box4 (Below.refl _ _) | exact box4 (Below.refl _ _).drew)
    (first
      | (go_at_call 50; refine (writeNumber_b _ _ _ (w.alloc (.cells #[.bool true, .bool false, .int .i64 op, .int .i64 vl] 63)) (by omega) (by omega) (by omega) (by omega) (by omega) (by go_split_ands; assumption)).mono ?_; rintro e w1 ⟨rfl, hb1⟩)
      | (go_at_call 67; refine (valueBytes_any _ _).mono ?_; rintro e w1 ⟨rfl, rfl⟩))
  all_goals go_wp2
  all_goals go_ret
  all_goals exact ⟨congrArg (fun b => Ending.returned (.string b)) (wTerm_eq ⟨true, false, op, vl⟩ false _ (by simp [mk, b2])), below_first (by assumption)⟩

set_option maxHeartbeats 400000 in
theorem writeTerm_101 (op vl : Int) (w : World) (o0 : 0 ≤ op) (o1 : op ≤ 7) (v0 : 0 ≤ vl) (v1 : vl ≤ 65535) (v2 : vB false = 1 → vl ≤ 255) :
    Calls Try.prog 52 #[.agg #[.bool true, .bool false, .int .i64 op, .int .i64 vl], .bool true] w fun e w' => e = .returned (.string (wTerm ⟨true, false, op, vl⟩ true)) ∧ Below w.heap.size w w' := by
  have b0 := vB_bd false
  have n0 : ∀ m : Int, (wNum m 1).size = 1 := fun m => by have := wNum_size m 1 (by omega) (by omega); omega
  have n1 : (wNum vl (vB false)).size = 1 := by have := wNum_size vl (vB false) (by omega) (by omega); simp only [vB] at this ⊢; simp at this ⊢; omega
  have e64 := or64 op o0 o1
  have e128 := or128 (op + 64) (by omega) (by omega)
  go_enter Try.func52, Try.ntmps52
  go_wp2
  go_region_held3 (fun w' => w'.cell? ⟨w.heap.size, 1, none⟩ = some (.bool false) ∧ w'.cell? ⟨w.heap.size, 3, none⟩ = some (.int .i64 vl) ∧ Below (w.alloc (.cells #[.bool true, .bool false, .int .i64 op, .int .i64 vl] 63)).heap.size (w.alloc (.cells #[.bool true, .bool false, .int .i64 op, .int .i64 vl] 63)) w')
    (first | exact box4 (by assumption) | exact box4 (Below.refl _ _) | exact box4 (Below.refl _ _).drew)
    (first
      | (go_at_call 50; refine (writeNumber_b _ _ _ (w.alloc (.cells #[.bool true, .bool false, .int .i64 op, .int .i64 vl] 63)) (by omega) (by omega) (by omega) (by omega) (by omega) (by go_split_ands; assumption)).mono ?_; rintro e w1 ⟨rfl, hb1⟩)
      | (go_at_call 67; refine (valueBytes_any _ _).mono ?_; rintro e w1 ⟨rfl, rfl⟩))
  all_goals go_wp2
  all_goals go_ret
  all_goals exact ⟨congrArg (fun b => Ending.returned (.string b)) (wTerm_eq ⟨true, false, op, vl⟩ true _ (by simp [mk, b2])), below_first (by assumption)⟩

set_option maxHeartbeats 400000 in
theorem writeTerm_110 (op vl : Int) (w : World) (o0 : 0 ≤ op) (o1 : op ≤ 7) (v0 : 0 ≤ vl) (v1 : vl ≤ 65535) (v2 : vB true = 1 → vl ≤ 255) :
    Calls Try.prog 52 #[.agg #[.bool true, .bool true, .int .i64 op, .int .i64 vl], .bool false] w fun e w' => e = .returned (.string (wTerm ⟨true, true, op, vl⟩ false)) ∧ Below w.heap.size w w' := by
  have b0 := vB_bd true
  have n0 : ∀ m : Int, (wNum m 1).size = 1 := fun m => by have := wNum_size m 1 (by omega) (by omega); omega
  have n1 : (wNum vl (vB true)).size = 2 := by have := wNum_size vl (vB true) (by omega) (by omega); simp only [vB] at this ⊢; simp at this ⊢; omega
  have e64 := or64 op o0 o1
  have e16 := or16 (op + 64) (by omega) (by omega) (by omega)
  go_enter Try.func52, Try.ntmps52
  go_wp2
  go_region_held3 (fun w' => w'.cell? ⟨w.heap.size, 1, none⟩ = some (.bool true) ∧ w'.cell? ⟨w.heap.size, 3, none⟩ = some (.int .i64 vl) ∧ Below (w.alloc (.cells #[.bool true, .bool true, .int .i64 op, .int .i64 vl] 63)).heap.size (w.alloc (.cells #[.bool true, .bool true, .int .i64 op, .int .i64 vl] 63)) w')
    (first | exact box4 (by assumption) | exact box4 (Below.refl _ _) | exact box4 (Below.refl _ _).drew)
    (first
      | (go_at_call 50; refine (writeNumber_b _ _ _ (w.alloc (.cells #[.bool true, .bool true, .int .i64 op, .int .i64 vl] 63)) (by omega) (by omega) (by omega) (by omega) (by omega) (by go_split_ands; assumption)).mono ?_; rintro e w1 ⟨rfl, hb1⟩)
      | (go_at_call 67; refine (valueBytes_any _ _).mono ?_; rintro e w1 ⟨rfl, rfl⟩))
  all_goals go_wp2
  all_goals go_ret
  all_goals exact ⟨congrArg (fun b => Ending.returned (.string b)) (wTerm_eq ⟨true, true, op, vl⟩ false _ (by simp [mk, b2])), below_first (by assumption)⟩

set_option maxHeartbeats 400000 in
theorem writeTerm_111 (op vl : Int) (w : World) (o0 : 0 ≤ op) (o1 : op ≤ 7) (v0 : 0 ≤ vl) (v1 : vl ≤ 65535) (v2 : vB true = 1 → vl ≤ 255) :
    Calls Try.prog 52 #[.agg #[.bool true, .bool true, .int .i64 op, .int .i64 vl], .bool true] w fun e w' => e = .returned (.string (wTerm ⟨true, true, op, vl⟩ true)) ∧ Below w.heap.size w w' := by
  have b0 := vB_bd true
  have n0 : ∀ m : Int, (wNum m 1).size = 1 := fun m => by have := wNum_size m 1 (by omega) (by omega); omega
  have n1 : (wNum vl (vB true)).size = 2 := by have := wNum_size vl (vB true) (by omega) (by omega); simp only [vB] at this ⊢; simp at this ⊢; omega
  have e64 := or64 op o0 o1
  have e16 := or16 (op + 64) (by omega) (by omega) (by omega)
  have e128 := or128 (op + 64 + 16) (by omega) (by omega)
  go_enter Try.func52, Try.ntmps52
  go_wp2
  go_region_held3 (fun w' => w'.cell? ⟨w.heap.size, 1, none⟩ = some (.bool true) ∧ w'.cell? ⟨w.heap.size, 3, none⟩ = some (.int .i64 vl) ∧ Below (w.alloc (.cells #[.bool true, .bool true, .int .i64 op, .int .i64 vl] 63)).heap.size (w.alloc (.cells #[.bool true, .bool true, .int .i64 op, .int .i64 vl] 63)) w')
    (first | exact box4 (by assumption) | exact box4 (Below.refl _ _) | exact box4 (Below.refl _ _).drew)
    (first
      | (go_at_call 50; refine (writeNumber_b _ _ _ (w.alloc (.cells #[.bool true, .bool true, .int .i64 op, .int .i64 vl] 63)) (by omega) (by omega) (by omega) (by omega) (by omega) (by go_split_ands; assumption)).mono ?_; rintro e w1 ⟨rfl, hb1⟩)
      | (go_at_call 67; refine (valueBytes_any _ _).mono ?_; rintro e w1 ⟨rfl, rfl⟩))
  all_goals go_wp2
  all_goals go_ret
  all_goals exact ⟨congrArg (fun b => Ending.returned (.string b)) (wTerm_eq ⟨true, true, op, vl⟩ true _ (by simp [mk, b2])), below_first (by assumption)⟩

theorem writeTerm_any (t : Tm) (l : Bool) (w : World) (o0 : 0 ≤ t.op) (o1 : t.op ≤ 7) (v0 : 0 ≤ t.vl) (v1 : t.vl ≤ mxV t.wd) :
    Calls Try.prog 52 #[.agg #[.bool t.an, .bool t.wd, .int .i64 t.op, .int .i64 t.vl], .bool l] w fun e w' => e = .returned (.string (wTerm t l)) ∧ Below w.heap.size w w' := by
  obtain ⟨an, wd, op, vl⟩ := t
  simp only [] at o0 o1 v0 v1 ⊢
  cases an <;> cases wd <;> cases l <;> simp only [mxV, if_true, Bool.false_eq_true, if_false] at v1
  · exact writeTerm_000 op vl w o0 o1 v0 (by omega) (fun _ => v1)
  · exact writeTerm_001 op vl w o0 o1 v0 (by omega) (fun _ => v1)
  · exact writeTerm_010 op vl w o0 o1 v0 (by omega) (fun h => by simp [vB] at h)
  · exact writeTerm_011 op vl w o0 o1 v0 (by omega) (fun h => by simp [vB] at h)
  · exact writeTerm_100 op vl w o0 o1 v0 (by omega) (fun _ => v1)
  · exact writeTerm_101 op vl w o0 o1 v0 (by omega) (fun _ => v1)
  · exact writeTerm_110 op vl w o0 o1 v0 (by omega) (fun h => by simp [vB] at h)
  · exact writeTerm_111 op vl w o0 o1 v0 (by omega) (fun h => by simp [vB] at h)
end Go.Proofs.Ytkdcjcemeipkjaa
