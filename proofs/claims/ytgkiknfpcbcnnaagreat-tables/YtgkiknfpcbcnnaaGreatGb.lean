import Derived.Test.YtgkiknfpcbcnnaaGreatGa
import Derived.Laws.IdiomStrings
import Derived.StillTactics
import Derived.Deep.RegionHeld3
import Derived.WalkSmall
namespace Go.Proofs.YtgkiknfpcbcnnaaGreat
open Go.RowKit
set_option maxRecDepth 20000
def ch (n : Int) : ByteArray := ⟨#[UInt8.ofNat n.toNat]⟩
theorem ch_size (n : Int) : (ch n).size = 1 := rfl
theorem conv_one (u : World) (x : Int) (h0 : 0 ≤ x) (h1 : x ≤ 255) :
    (convert 146 9 (.slice (some ⟨u.heap.size, 0, none⟩) 1 1)).run Tryz.prog (u.alloc (.cells #[.int .u8 x] 5)) = .ok (.string (ch x)) (u.alloc (.cells #[.int .u8 x] 5)) := by
  have e : ((UInt8.ofNat x.toNat).toNat : Int) = x := by
    rw [UInt8.toNat_ofNat_of_lt' (by show x.toNat < 256; omega)]; omega
  exact run_convert_bytes_back (P := Tryz.prog) (u.alloc (.cells #[.int .u8 x] 5)) 146 9 5 ⟨u.heap.size, 0, none⟩ 1 [UInt8.ofNat x.toNat] Tryz.underlying146 Tryz.underlying5 Tryz.underlying9 (by
    intro j hj
    match j, hj with
    | 0, _ => simp [Addr.add]; omega)
theorem and255 (n : Int) (h0 : 0 ≤ n) (h1 : n ≤ 65535) : bits BinOp.and IntKind.i64 n 255 = n % 256 := by
  obtain ⟨k, rfl⟩ := Int.eq_ofNat_of_zero_le h0
  have := bits_mask k 8 (by omega) (by omega)
  simpa using this
theorem app_nil (a : ByteArray) : a ++ (⟨#[]⟩ : ByteArray) = a := by
  apply ByteArray.ext; simp [ByteArray.data_append]
theorem writeNumber_zero (n : Int) (w : World) :
    Calls Tryz.prog 143 #[.int .i64 n, .int .i64 0] w fun e w' => e = .returned (.string ⟨#[]⟩) ∧ Below w.heap.size w w' := by
  go_enter Tryz.func143, Tryz.ntmps143
  go_wp2
  refine wp_loop_rounds 1 ?_
  rw [rounds_succ]
  go_wp2
  go_ret
  exact ⟨rfl, Below.refl _ _⟩
set_option maxHeartbeats 400000 in
theorem writeNumber_one (n : Int) (w : World) (h0 : 0 ≤ n) (h1 : n ≤ 255) :
    Calls Tryz.prog 143 #[.int .i64 n, .int .i64 1] w fun e w' => e = .returned (.string (ch n)) ∧ Below w.heap.size w w' := by
  have e1 : bits BinOp.and IntKind.i64 n 255 = n := by rw [and255 n h0 (by omega)]; omega
  have hc := conv_one w n h0 h1
  have e2 : n % 256 = n := by omega
  have e3 := ch_size n
  go_enter Tryz.func143, Tryz.ntmps143
  go_wp2
  refine wp_loop_rounds 2 ?_
  rw [rounds_succ]
  go_wp2
  rw [rounds_succ]
  go_wp2
  go_ret
  exact ⟨congrArg (fun b => Ending.returned (.string b)) (app_nil _), (Below.refl _ _).alloc (Nat.le_refl _) _⟩
set_option maxHeartbeats 400000 in
theorem writeNumber_two (n : Int) (w : World) (h0 : 0 ≤ n) (h1 : n ≤ 65535) :
    Calls Tryz.prog 143 #[.int .i64 n, .int .i64 2] w fun e w' => e = .returned (.string (ch (n / 256) ++ ch (n % 256))) ∧ Below w.heap.size w w' := by
  have e1 := and255 n h0 h1
  have e1' : bits BinOp.and IntKind.i64 (n / 256) 255 = n / 256 := by rw [and255 _ (by omega) (by omega)]; omega
  have hc := conv_one w (n % 256) (by omega) (by omega)
  have hc' := conv_one (w.alloc (.cells #[.int .u8 (n % 256)] 5)) (n / 256) (by omega) (by omega)
  simp only [World.size_alloc] at hc'
  have e2 : n / 256 % 256 = n / 256 := by omega
  have e4 : n % 256 % 256 = n % 256 := by omega
  have e3 := ch_size (n % 256)
  have e3' := ch_size (n / 256)
  go_enter Tryz.func143, Tryz.ntmps143
  go_wp2
  refine wp_loop_rounds 3 ?_
  rw [rounds_succ]
  go_wp2
  rw [rounds_succ]
  go_wp2
  rw [rounds_succ]
  go_wp2
  go_ret
  exact ⟨congrArg (fun b => Ending.returned (.string (ch (n / 256) ++ b))) (app_nil _), ((Below.refl _ _).alloc (Nat.le_refl _) _).alloc (by simp) _⟩
def wNum (n c : Int) : ByteArray := if c = 0 then ⟨#[]⟩ else if c = 1 then ch n else ch (n / 256) ++ ch (n % 256)
theorem wNum_size (n c : Int) (h0 : 0 ≤ c) (h2 : c ≤ 2) : ((wNum n c).size : Int) = c := by
  unfold wNum
  by_cases a : c = 0
  · rw [if_pos a, a]; rfl
  · rw [if_neg a]
    by_cases b : c = 1
    · rw [if_pos b, b]; rfl
    · rw [if_neg b, ByteArray.size_append]
      simp only [ch_size]
      omega
theorem writeNumber_any (n c : Int) (w : World) (h0 : 0 ≤ n) (h1 : n ≤ 65535) (c0 : 0 ≤ c) (c2 : c ≤ 2) (h : c = 1 → n ≤ 255) :
    Calls Tryz.prog 143 #[.int .i64 n, .int .i64 c] w fun e w' => e = .returned (.string (wNum n c)) ∧ Below w.heap.size w w' := by
  unfold wNum
  by_cases a : c = 0
  · rw [if_pos a]; subst a; exact writeNumber_zero n w
  by_cases b : c = 1
  · rw [if_neg a, if_pos b]; subst b; exact writeNumber_one n w h0 (h rfl)
  rw [if_neg a, if_neg b]
  obtain rfl : c = 2 := by omega
  exact writeNumber_two n w h0 h1
theorem writeNumber_b (n c : Int) (w W0 : World) (h0 : 0 ≤ n) (h1 : n ≤ 65535) (c0 : 0 ≤ c) (c2 : c ≤ 2) (h : c = 1 → n ≤ 255) (hb : Below W0.heap.size W0 w) :
    Calls Tryz.prog 143 #[.int .i64 n, .int .i64 c] w fun e w' => e = .returned (.string (wNum n c)) ∧ Below W0.heap.size W0 w' :=
  (writeNumber_any n c w h0 h1 c0 c2 h).mono fun _ _ h => ⟨h.1, hb.trans (h.2.mono hb.size)⟩
theorem box4 {w w' : World} {a b c d : Value} {t : TypeId} (hb : Below (w.alloc (.cells #[a, b, c, d] t)).heap.size (w.alloc (.cells #[a, b, c, d] t)) w') :
    w'.cell? ⟨w.heap.size, 1, none⟩ = some b ∧ w'.cell? ⟨w.heap.size, 3, none⟩ = some d ∧ Below (w.alloc (.cells #[a, b, c, d] t)).heap.size (w.alloc (.cells #[a, b, c, d] t)) w' :=
  ⟨(cells_of_below hb).2.1, (cells_of_below hb).2.2.2.1, hb⟩
theorem or64 (m : Int) (h0 : 0 ≤ m) (h1 : m ≤ 7) : bits BinOp.or IntKind.i64 m 64 = m + 64 :=
  byte_cases (p := fun m => m ≤ 7 → bits BinOp.or IntKind.i64 m 64 = m + 64) (by decide +kernel) m h0 (by omega) h1
theorem or16 (m : Int) (h0 : 0 ≤ m) (h1 : m ≤ 255) (h : m / 16 % 2 = 0) : bits BinOp.or IntKind.i64 m 16 = m + 16 :=
  byte_cases (p := fun m => m / 16 % 2 = 0 → bits BinOp.or IntKind.i64 m 16 = m + 16) (by decide +kernel) m h0 h1 h
theorem or128 (m : Int) (h0 : 0 ≤ m) (h1 : m ≤ 127) : bits BinOp.or IntKind.i64 m 128 = m + 128 :=
  byte_cases (p := fun m => m ≤ 127 → bits BinOp.or IntKind.i64 m 128 = m + 128) (by decide +kernel) m h0 (by omega) h1
def b2 (b : Bool) (n : Int) : Int := if b then n else 0
def mk (t : Tm) (last : Bool) : Int := t.op + b2 t.an 64 + b2 t.wd 16 + b2 last 128
def wTerm (t : Tm) (last : Bool) : ByteArray := ch (mk t last) ++ wNum t.vl (vB t.wd)
theorem wTerm_eq (t : Tm) (l : Bool) (m : Int) (h : m = mk t l) : wNum m 1 ++ wNum t.vl (vB t.wd) = wTerm t l := by
  subst h; simp [wTerm, wNum]
set_option maxHeartbeats 400000 in
theorem writeTerm_000 (op vl : Int) (w : World) (o0 : 0 ≤ op) (o1 : op ≤ 7) (v0 : 0 ≤ vl) (v1 : vl ≤ 65535) (v2 : vB false = 1 → vl ≤ 255) :
    Calls Tryz.prog 145 #[.agg #[.bool false, .bool false, .int .i64 op, .int .i64 vl], .bool false] w fun e w' => e = .returned (.string (wTerm ⟨false, false, op, vl⟩ false)) ∧ Below w.heap.size w w' := by
  have b0 := vB_bd false
  have n0 : ∀ m : Int, (wNum m 1).size = 1 := fun m => by have := wNum_size m 1 (by omega) (by omega); omega
  have n1 : (wNum vl (vB false)).size = 1 := by have := wNum_size vl (vB false) (by omega) (by omega); simp only [vB] at this ⊢; simp at this ⊢; omega
  skip
  go_enter Tryz.func145, Tryz.ntmps145
  go_wp2
  go_region_held3 (fun w' => w'.cell? ⟨w.heap.size, 1, none⟩ = some (.bool false) ∧ w'.cell? ⟨w.heap.size, 3, none⟩ = some (.int .i64 vl) ∧ Below (w.alloc (.cells #[.bool false, .bool false, .int .i64 op, .int .i64 vl] 166)).heap.size (w.alloc (.cells #[.bool false, .bool false, .int .i64 op, .int .i64 vl] 166)) w')
    (first | exact box4 (by assumption) | exact box4 (Below.refl _ _) | exact box4 (Below.refl _ _).drew)
    (first
      | (go_at_call 143; refine (writeNumber_b _ _ _ (w.alloc (.cells #[.bool false, .bool false, .int .i64 op, .int .i64 vl] 166)) (by omega) (by omega) (by omega) (by omega) (by omega) (by go_split_ands; assumption)).mono ?_; rintro e w1 ⟨rfl, hb1⟩)
      | (go_at_call 128; refine (valueBytes_any _ _).mono ?_; rintro e w1 ⟨rfl, rfl⟩))
  all_goals go_wp2
  all_goals go_ret
  all_goals exact ⟨congrArg (fun b => Ending.returned (.string b)) (wTerm_eq ⟨false, false, op, vl⟩ false _ (by simp [mk, b2])), below_first (by assumption)⟩
set_option maxHeartbeats 400000 in
theorem writeTerm_001 (op vl : Int) (w : World) (o0 : 0 ≤ op) (o1 : op ≤ 7) (v0 : 0 ≤ vl) (v1 : vl ≤ 65535) (v2 : vB false = 1 → vl ≤ 255) :
    Calls Tryz.prog 145 #[.agg #[.bool false, .bool false, .int .i64 op, .int .i64 vl], .bool true] w fun e w' => e = .returned (.string (wTerm ⟨false, false, op, vl⟩ true)) ∧ Below w.heap.size w w' := by
  have b0 := vB_bd false
  have n0 : ∀ m : Int, (wNum m 1).size = 1 := fun m => by have := wNum_size m 1 (by omega) (by omega); omega
  have n1 : (wNum vl (vB false)).size = 1 := by have := wNum_size vl (vB false) (by omega) (by omega); simp only [vB] at this ⊢; simp at this ⊢; omega
  have e128 := or128 (op) (by omega) (by omega)
  go_enter Tryz.func145, Tryz.ntmps145
  go_wp2
  go_region_held3 (fun w' => w'.cell? ⟨w.heap.size, 1, none⟩ = some (.bool false) ∧ w'.cell? ⟨w.heap.size, 3, none⟩ = some (.int .i64 vl) ∧ Below (w.alloc (.cells #[.bool false, .bool false, .int .i64 op, .int .i64 vl] 166)).heap.size (w.alloc (.cells #[.bool false, .bool false, .int .i64 op, .int .i64 vl] 166)) w')
    (first | exact box4 (by assumption) | exact box4 (Below.refl _ _) | exact box4 (Below.refl _ _).drew)
    (first
      | (go_at_call 143; refine (writeNumber_b _ _ _ (w.alloc (.cells #[.bool false, .bool false, .int .i64 op, .int .i64 vl] 166)) (by omega) (by omega) (by omega) (by omega) (by omega) (by go_split_ands; assumption)).mono ?_; rintro e w1 ⟨rfl, hb1⟩)
      | (go_at_call 128; refine (valueBytes_any _ _).mono ?_; rintro e w1 ⟨rfl, rfl⟩))
  all_goals go_wp2
  all_goals go_ret
  all_goals exact ⟨congrArg (fun b => Ending.returned (.string b)) (wTerm_eq ⟨false, false, op, vl⟩ true _ (by simp [mk, b2])), below_first (by assumption)⟩
set_option maxHeartbeats 400000 in
theorem writeTerm_010 (op vl : Int) (w : World) (o0 : 0 ≤ op) (o1 : op ≤ 7) (v0 : 0 ≤ vl) (v1 : vl ≤ 65535) (v2 : vB true = 1 → vl ≤ 255) :
    Calls Tryz.prog 145 #[.agg #[.bool false, .bool true, .int .i64 op, .int .i64 vl], .bool false] w fun e w' => e = .returned (.string (wTerm ⟨false, true, op, vl⟩ false)) ∧ Below w.heap.size w w' := by
  have b0 := vB_bd true
  have n0 : ∀ m : Int, (wNum m 1).size = 1 := fun m => by have := wNum_size m 1 (by omega) (by omega); omega
  have n1 : (wNum vl (vB true)).size = 2 := by have := wNum_size vl (vB true) (by omega) (by omega); simp only [vB] at this ⊢; simp at this ⊢; omega
  have e16 := or16 (op) (by omega) (by omega) (by omega)
  go_enter Tryz.func145, Tryz.ntmps145
  go_wp2
  go_region_held3 (fun w' => w'.cell? ⟨w.heap.size, 1, none⟩ = some (.bool true) ∧ w'.cell? ⟨w.heap.size, 3, none⟩ = some (.int .i64 vl) ∧ Below (w.alloc (.cells #[.bool false, .bool true, .int .i64 op, .int .i64 vl] 166)).heap.size (w.alloc (.cells #[.bool false, .bool true, .int .i64 op, .int .i64 vl] 166)) w')
    (first | exact box4 (by assumption) | exact box4 (Below.refl _ _) | exact box4 (Below.refl _ _).drew)
    (first
      | (go_at_call 143; refine (writeNumber_b _ _ _ (w.alloc (.cells #[.bool false, .bool true, .int .i64 op, .int .i64 vl] 166)) (by omega) (by omega) (by omega) (by omega) (by omega) (by go_split_ands; assumption)).mono ?_; rintro e w1 ⟨rfl, hb1⟩)
      | (go_at_call 128; refine (valueBytes_any _ _).mono ?_; rintro e w1 ⟨rfl, rfl⟩))
  all_goals go_wp2
  all_goals go_ret
  all_goals exact ⟨congrArg (fun b => Ending.returned (.string b)) (wTerm_eq ⟨false, true, op, vl⟩ false _ (by simp [mk, b2])), below_first (by assumption)⟩
set_option maxHeartbeats 400000 in
theorem writeTerm_011 (op vl : Int) (w : World) (o0 : 0 ≤ op) (o1 : op ≤ 7) (v0 : 0 ≤ vl) (v1 : vl ≤ 65535) (v2 : vB true = 1 → vl ≤ 255) :
    Calls Tryz.prog 145 #[.agg #[.bool false, .bool true, .int .i64 op, .int .i64 vl], .bool true] w fun e w' => e = .returned (.string (wTerm ⟨false, true, op, vl⟩ true)) ∧ Below w.heap.size w w' := by
  have b0 := vB_bd true
  have n0 : ∀ m : Int, (wNum m 1).size = 1 := fun m => by have := wNum_size m 1 (by omega) (by omega); omega
  have n1 : (wNum vl (vB true)).size = 2 := by have := wNum_size vl (vB true) (by omega) (by omega); simp only [vB] at this ⊢; simp at this ⊢; omega
  have e16 := or16 (op) (by omega) (by omega) (by omega)
  have e128 := or128 (op + 16) (by omega) (by omega)
  go_enter Tryz.func145, Tryz.ntmps145
  go_wp2
  go_region_held3 (fun w' => w'.cell? ⟨w.heap.size, 1, none⟩ = some (.bool true) ∧ w'.cell? ⟨w.heap.size, 3, none⟩ = some (.int .i64 vl) ∧ Below (w.alloc (.cells #[.bool false, .bool true, .int .i64 op, .int .i64 vl] 166)).heap.size (w.alloc (.cells #[.bool false, .bool true, .int .i64 op, .int .i64 vl] 166)) w')
    (first | exact box4 (by assumption) | exact box4 (Below.refl _ _) | exact box4 (Below.refl _ _).drew)
    (first
      | (go_at_call 143; refine (writeNumber_b _ _ _ (w.alloc (.cells #[.bool false, .bool true, .int .i64 op, .int .i64 vl] 166)) (by omega) (by omega) (by omega) (by omega) (by omega) (by go_split_ands; assumption)).mono ?_; rintro e w1 ⟨rfl, hb1⟩)
      | (go_at_call 128; refine (valueBytes_any _ _).mono ?_; rintro e w1 ⟨rfl, rfl⟩))
  all_goals go_wp2
  all_goals go_ret
  all_goals exact ⟨congrArg (fun b => Ending.returned (.string b)) (wTerm_eq ⟨false, true, op, vl⟩ true _ (by simp [mk, b2])), below_first (by assumption)⟩
set_option maxHeartbeats 400000 in
theorem writeTerm_100 (op vl : Int) (w : World) (o0 : 0 ≤ op) (o1 : op ≤ 7) (v0 : 0 ≤ vl) (v1 : vl ≤ 65535) (v2 : vB false = 1 → vl ≤ 255) :
    Calls Tryz.prog 145 #[.agg #[.bool true, .bool false, .int .i64 op, .int .i64 vl], .bool false] w fun e w' => e = .returned (.string (wTerm ⟨true, false, op, vl⟩ false)) ∧ Below w.heap.size w w' := by
  have b0 := vB_bd false
  have n0 : ∀ m : Int, (wNum m 1).size = 1 := fun m => by have := wNum_size m 1 (by omega) (by omega); omega
  have n1 : (wNum vl (vB false)).size = 1 := by have := wNum_size vl (vB false) (by omega) (by omega); simp only [vB] at this ⊢; simp at this ⊢; omega
  have e64 := or64 op o0 o1
  go_enter Tryz.func145, Tryz.ntmps145
  go_wp2
  go_region_held3 (fun w' => w'.cell? ⟨w.heap.size, 1, none⟩ = some (.bool false) ∧ w'.cell? ⟨w.heap.size, 3, none⟩ = some (.int .i64 vl) ∧ Below (w.alloc (.cells #[.bool true, .bool false, .int .i64 op, .int .i64 vl] 166)).heap.size (w.alloc (.cells #[.bool true, .bool false, .int .i64 op, .int .i64 vl] 166)) w')
    (first | exact box4 (by assumption) | exact box4 (Below.refl _ _) | exact box4 (Below.refl _ _).drew)
    (first
      | (go_at_call 143; refine (writeNumber_b _ _ _ (w.alloc (.cells #[.bool true, .bool false, .int .i64 op, .int .i64 vl] 166)) (by omega) (by omega) (by omega) (by omega) (by omega) (by go_split_ands; assumption)).mono ?_; rintro e w1 ⟨rfl, hb1⟩)
      | (go_at_call 128; refine (valueBytes_any _ _).mono ?_; rintro e w1 ⟨rfl, rfl⟩))
  all_goals go_wp2
  all_goals go_ret
  all_goals exact ⟨congrArg (fun b => Ending.returned (.string b)) (wTerm_eq ⟨true, false, op, vl⟩ false _ (by simp [mk, b2])), below_first (by assumption)⟩
set_option maxHeartbeats 400000 in
theorem writeTerm_101 (op vl : Int) (w : World) (o0 : 0 ≤ op) (o1 : op ≤ 7) (v0 : 0 ≤ vl) (v1 : vl ≤ 65535) (v2 : vB false = 1 → vl ≤ 255) :
    Calls Tryz.prog 145 #[.agg #[.bool true, .bool false, .int .i64 op, .int .i64 vl], .bool true] w fun e w' => e = .returned (.string (wTerm ⟨true, false, op, vl⟩ true)) ∧ Below w.heap.size w w' := by
  have b0 := vB_bd false
  have n0 : ∀ m : Int, (wNum m 1).size = 1 := fun m => by have := wNum_size m 1 (by omega) (by omega); omega
  have n1 : (wNum vl (vB false)).size = 1 := by have := wNum_size vl (vB false) (by omega) (by omega); simp only [vB] at this ⊢; simp at this ⊢; omega
  have e64 := or64 op o0 o1
  have e128 := or128 (op + 64) (by omega) (by omega)
  go_enter Tryz.func145, Tryz.ntmps145
  go_wp2
  go_region_held3 (fun w' => w'.cell? ⟨w.heap.size, 1, none⟩ = some (.bool false) ∧ w'.cell? ⟨w.heap.size, 3, none⟩ = some (.int .i64 vl) ∧ Below (w.alloc (.cells #[.bool true, .bool false, .int .i64 op, .int .i64 vl] 166)).heap.size (w.alloc (.cells #[.bool true, .bool false, .int .i64 op, .int .i64 vl] 166)) w')
    (first | exact box4 (by assumption) | exact box4 (Below.refl _ _) | exact box4 (Below.refl _ _).drew)
    (first
      | (go_at_call 143; refine (writeNumber_b _ _ _ (w.alloc (.cells #[.bool true, .bool false, .int .i64 op, .int .i64 vl] 166)) (by omega) (by omega) (by omega) (by omega) (by omega) (by go_split_ands; assumption)).mono ?_; rintro e w1 ⟨rfl, hb1⟩)
      | (go_at_call 128; refine (valueBytes_any _ _).mono ?_; rintro e w1 ⟨rfl, rfl⟩))
  all_goals go_wp2
  all_goals go_ret
  all_goals exact ⟨congrArg (fun b => Ending.returned (.string b)) (wTerm_eq ⟨true, false, op, vl⟩ true _ (by simp [mk, b2])), below_first (by assumption)⟩
set_option maxHeartbeats 400000 in
theorem writeTerm_110 (op vl : Int) (w : World) (o0 : 0 ≤ op) (o1 : op ≤ 7) (v0 : 0 ≤ vl) (v1 : vl ≤ 65535) (v2 : vB true = 1 → vl ≤ 255) :
    Calls Tryz.prog 145 #[.agg #[.bool true, .bool true, .int .i64 op, .int .i64 vl], .bool false] w fun e w' => e = .returned (.string (wTerm ⟨true, true, op, vl⟩ false)) ∧ Below w.heap.size w w' := by
  have b0 := vB_bd true
  have n0 : ∀ m : Int, (wNum m 1).size = 1 := fun m => by have := wNum_size m 1 (by omega) (by omega); omega
  have n1 : (wNum vl (vB true)).size = 2 := by have := wNum_size vl (vB true) (by omega) (by omega); simp only [vB] at this ⊢; simp at this ⊢; omega
  have e64 := or64 op o0 o1
  have e16 := or16 (op + 64) (by omega) (by omega) (by omega)
  go_enter Tryz.func145, Tryz.ntmps145
  go_wp2
  go_region_held3 (fun w' => w'.cell? ⟨w.heap.size, 1, none⟩ = some (.bool true) ∧ w'.cell? ⟨w.heap.size, 3, none⟩ = some (.int .i64 vl) ∧ Below (w.alloc (.cells #[.bool true, .bool true, .int .i64 op, .int .i64 vl] 166)).heap.size (w.alloc (.cells #[.bool true, .bool true, .int .i64 op, .int .i64 vl] 166)) w')
    (first | exact box4 (by assumption) | exact box4 (Below.refl _ _) | exact box4 (Below.refl _ _).drew)
    (first
      | (go_at_call 143; refine (writeNumber_b _ _ _ (w.alloc (.cells #[.bool true, .bool true, .int .i64 op, .int .i64 vl] 166)) (by omega) (by omega) (by omega) (by omega) (by omega) (by go_split_ands; assumption)).mono ?_; rintro e w1 ⟨rfl, hb1⟩)
      | (go_at_call 128; refine (valueBytes_any _ _).mono ?_; rintro e w1 ⟨rfl, rfl⟩))
  all_goals go_wp2
  all_goals go_ret
  all_goals exact ⟨congrArg (fun b => Ending.returned (.string b)) (wTerm_eq ⟨true, true, op, vl⟩ false _ (by simp [mk, b2])), below_first (by assumption)⟩
set_option maxHeartbeats 400000 in
theorem writeTerm_111 (op vl : Int) (w : World) (o0 : 0 ≤ op) (o1 : op ≤ 7) (v0 : 0 ≤ vl) (v1 : vl ≤ 65535) (v2 : vB true = 1 → vl ≤ 255) :
    Calls Tryz.prog 145 #[.agg #[.bool true, .bool true, .int .i64 op, .int .i64 vl], .bool true] w fun e w' => e = .returned (.string (wTerm ⟨true, true, op, vl⟩ true)) ∧ Below w.heap.size w w' := by
  have b0 := vB_bd true
  have n0 : ∀ m : Int, (wNum m 1).size = 1 := fun m => by have := wNum_size m 1 (by omega) (by omega); omega
  have n1 : (wNum vl (vB true)).size = 2 := by have := wNum_size vl (vB true) (by omega) (by omega); simp only [vB] at this ⊢; simp at this ⊢; omega
  have e64 := or64 op o0 o1
  have e16 := or16 (op + 64) (by omega) (by omega) (by omega)
  have e128 := or128 (op + 64 + 16) (by omega) (by omega)
  go_enter Tryz.func145, Tryz.ntmps145
  go_wp2
  go_region_held3 (fun w' => w'.cell? ⟨w.heap.size, 1, none⟩ = some (.bool true) ∧ w'.cell? ⟨w.heap.size, 3, none⟩ = some (.int .i64 vl) ∧ Below (w.alloc (.cells #[.bool true, .bool true, .int .i64 op, .int .i64 vl] 166)).heap.size (w.alloc (.cells #[.bool true, .bool true, .int .i64 op, .int .i64 vl] 166)) w')
    (first | exact box4 (by assumption) | exact box4 (Below.refl _ _) | exact box4 (Below.refl _ _).drew)
    (first
      | (go_at_call 143; refine (writeNumber_b _ _ _ (w.alloc (.cells #[.bool true, .bool true, .int .i64 op, .int .i64 vl] 166)) (by omega) (by omega) (by omega) (by omega) (by omega) (by go_split_ands; assumption)).mono ?_; rintro e w1 ⟨rfl, hb1⟩)
      | (go_at_call 128; refine (valueBytes_any _ _).mono ?_; rintro e w1 ⟨rfl, rfl⟩))
  all_goals go_wp2
  all_goals go_ret
  all_goals exact ⟨congrArg (fun b => Ending.returned (.string b)) (wTerm_eq ⟨true, true, op, vl⟩ true _ (by simp [mk, b2])), below_first (by assumption)⟩
theorem writeTerm_any (t : Tm) (l : Bool) (w : World) (o0 : 0 ≤ t.op) (o1 : t.op ≤ 7) (v0 : 0 ≤ t.vl) (v1 : t.vl ≤ mxV t.wd) :
    Calls Tryz.prog 145 #[.agg #[.bool t.an, .bool t.wd, .int .i64 t.op, .int .i64 t.vl], .bool l] w fun e w' => e = .returned (.string (wTerm t l)) ∧ Below w.heap.size w w' := by
  obtain ⟨an, wd, op, vl⟩ := t
  simp only [] at o0 o1 v0 v1 ⊢
  cases an <;> cases wd <;> cases l <;> simp only [mxV, if_true, Bool.false_eq_true, if_false] at v1
  · exact writeTerm_000 op vl w o0 o1 v0 (by omega) (fun _ => v1)
  · exact writeTerm_001 op vl w o0 o1 v0 (by omega) (fun _ => v1)
  · exact writeTerm_010 op vl w o0 o1 v0 (by omega) (fun h => by simp [vB] at h)
  · exact writeTerm_011 op vl w o0 o1 v0 (by omega) (fun h => by simp [vB] at h)
  · exact writeTerm_100 op vl w o0 o1 v0 (by omega) (fun _ => v1)
  · exact writeTerm_101 op vl w o0 o1 v0 (by omega) (fun _ => v1)
  · exact writeTerm_110 op vl w o0 o1 v0 (by omega) (fun h => by simp [vB] at h)
  · exact writeTerm_111 op vl w o0 o1 v0 (by omega) (fun h => by simp [vB] at h)
end Go.Proofs.YtgkiknfpcbcnnaaGreat
namespace Go.Proofs.YtgkiknfpcbcnnaaGreat
open Go.RowKit
set_option maxRecDepth 20000
def isT (k : Int) (t : Tm) : Bool := !(t.wd && decide (k = 5)) && decide (0 ≤ t.op) && decide (t.op ≤ opM k) && decide (0 ≤ t.vl) && decide (t.vl ≤ mxV t.wd)
end Go.Proofs.YtgkiknfpcbcnnaaGreat
namespace Go.Proofs.YtgkiknfpcbcnnaaGreat
open Go.RowKit
set_option maxRecDepth 20000
def TermsIn (w : World) (ao : Option Addr) (ts : List Tm) : Prop :=
  ∀ i (h : i < ts.length), ∃ b off, ao = some ⟨b, off, none⟩ ∧ w.cell? ⟨b, off + i * 4, none⟩ = some (.bool ts[i].an) ∧ w.cell? ⟨b, off + i * 4 + 1, none⟩ = some (.bool ts[i].wd) ∧
    w.cell? ⟨b, off + i * 4 + 2, none⟩ = some (.int .i64 ts[i].op) ∧ w.cell? ⟨b, off + i * 4 + 3, none⟩ = some (.int .i64 ts[i].vl)
theorem TermsIn.below {w w' : World} {ao : Option Addr} {ts : List Tm} (h : TermsIn w ao ts) (hb : Below w.heap.size w w') : TermsIn w' ao ts := by
  intro i hi
  obtain ⟨b, off, e, c0, c1, c2, c3⟩ := h i hi
  have hl : b < w.heap.size := World.block_lt_of_cell? w _ c0
  exact ⟨b, off, e, by rw [hb.cell hl]; exact c0, by rw [hb.cell hl]; exact c1, by rw [hb.cell hl]; exact c2, by rw [hb.cell hl]; exact c3⟩
def allT (k : Int) : Bool → List Tm → Bool
  | _, [] => true
  | f, t :: r => !(t.an && f) && isT k t && allT k false r
def areT (k : Int) (ts : List Tm) : Bool := decide (1 ≤ ts.length) && decide (ts.length ≤ 8) && allT k true ts
end Go.Proofs.YtgkiknfpcbcnnaaGreat
namespace Go.Proofs.YtgkiknfpcbcnnaaGreat
open Go.RowKit
set_option maxRecDepth 20000
def isP (p : Pt) : Bool := if hasP p.ty then decide (p.ts.length = 0) && prefOK p.bt p.ln else if hasT p.ty then decide (p.bt = 0) && decide (p.ln = 0) && areT p.ty p.ts else false
def PartsIn (w : World) (ao : Option Addr) (ps : List Pt) : Prop :=
  ∀ i (h : i < ps.length), ∃ b off tao tcap, ao = some ⟨b, off, none⟩ ∧ w.cell? ⟨b, off + i * 4, none⟩ = some (.int .i64 ps[i].ty) ∧ w.cell? ⟨b, off + i * 4 + 1, none⟩ = some (.int .i64 ps[i].bt) ∧
    w.cell? ⟨b, off + i * 4 + 2, none⟩ = some (.int .i64 ps[i].ln) ∧ w.cell? ⟨b, off + i * 4 + 3, none⟩ = some (.slice tao ps[i].ts.length tcap) ∧ ps[i].ts.length ≤ 140737488351232 ∧ TermsIn w tao ps[i].ts
theorem PartsIn.below {w w' : World} {ao : Option Addr} {ps : List Pt} (h : PartsIn w ao ps) (hb : Below w.heap.size w w') : PartsIn w' ao ps := by
  intro i hi
  obtain ⟨b, off, tao, tcap, e, c0, c1, c2, c3, hl, ht⟩ := h i hi
  have hlt : b < w.heap.size := World.block_lt_of_cell? w _ c0
  exact ⟨b, off, tao, tcap, e, by rw [hb.cell hlt]; exact c0, by rw [hb.cell hlt]; exact c1, by rw [hb.cell hlt]; exact c2, by rw [hb.cell hlt]; exact c3, hl, ht.below hb⟩
def allP : Int → List Pt → Bool
  | _, [] => true
  | b, p :: r => decide (b < p.ty) && isP p && allP p.ty r
def isR (ps : List Pt) : Bool := allP 0 ps && decide (0 < ps.length)
end Go.Proofs.YtgkiknfpcbcnnaaGreat
namespace Go.Proofs.YtgkiknfpcbcnnaaGreat
open Go.RowKit
set_option maxRecDepth 20000
def wPref (b l : Int) : ByteArray := ch l ++ wNum (if pB l = 1 then b / 256 else b) (pB l)
def wTerms : List Tm → ByteArray
  | [] => ⟨#[]⟩
  | t :: r => wTerm t r.isEmpty ++ wTerms r
def wPart (p : Pt) : ByteArray := if hasP p.ty then ch p.ty ++ wPref p.bt p.ln else ch p.ty ++ wTerms p.ts
def wParts : List Pt → ByteArray
  | [] => ⟨#[]⟩
  | p :: r => wPart p ++ wParts r
theorem app_assoc (a b c : ByteArray) : a ++ b ++ c = a ++ (b ++ c) := by
  apply ByteArray.ext; simp [ByteArray.data_append]
theorem nil_app (a : ByteArray) : (⟨#[]⟩ : ByteArray) ++ a = a := by
  apply ByteArray.ext; simp [ByteArray.data_append]
theorem wTerm_size (t : Tm) (l : Bool) : (wTerm t l).size ≤ 3 := by
  unfold wTerm
  have := vB_bd t.wd
  have := wNum_size t.vl (vB t.wd) (by omega) (by omega)
  rw [ByteArray.size_append, ch_size]; omega
theorem wPref_size (b l : Int) : (wPref b l).size ≤ 3 := by
  unfold wPref
  have := pB_bd l
  have := wNum_size (if pB l = 1 then b / 256 else b) (pB l) (by omega) (by omega)
  rw [ByteArray.size_append, ch_size]; omega
theorem wTerms_size (ts : List Tm) : (wTerms ts).size ≤ 3 * ts.length := by
  induction ts with
  | nil => exact Nat.zero_le _
  | cons t r ih => have := wTerm_size t r.isEmpty; simp only [wTerms, ByteArray.size_append, List.length_cons]; omega
set_option maxHeartbeats 400000 in
theorem writePrefix_any (b l : Int) (w : World) (h : prefOK b l = true) :
    Calls Tryz.prog 144 #[.agg #[.int .i64 b, .int .i64 l]] w fun e w' => e = .returned (.string (wPref b l)) ∧ Below w.heap.size w w' := by
  unfold prefOK at h
  simp only [Bool.and_eq_true, decide_eq_true_eq] at h
  obtain ⟨⟨⟨⟨h1, h2⟩, h3⟩, h4⟩, _⟩ := h
  have pb := pB_bd l
  have s1 : (wNum l 1).size = 1 := rfl
  by_cases hp : pB l = 1
  · have e : wPref b l = wNum l 1 ++ wNum (b / 256) (pB l) := by unfold wPref; rw [if_pos hp]; rfl
    rw [e]; clear e
    have hp' : (pB l == 1) = true := by simpa using hp
    have s2 : (wNum (b / 256) (pB l)).size ≤ 2 := by have := wNum_size (b / 256) (pB l) (by omega) (by omega); omega
    clear hp
    go_enter Tryz.func144, Tryz.ntmps144
    go_wp2_with (first
      | (go_at_call 125; refine (prefixBytes_any _ _).mono ?_; rintro e w' ⟨rfl, rfl⟩)
      | (go_at_call_of 143 (Value.int IntKind.i64 l); refine (writeNumber_any _ _ _ (by omega) (by omega) (by omega) (by omega) (by omega)).mono ?_; rintro e w1 ⟨rfl, hb1⟩)
      | (go_at_call 143; refine (writeNumber_any _ _ _ (by omega) (by omega) (by omega) (by omega) (by omega)).mono ?_; rintro e w2 ⟨rfl, hb2⟩))
    go_ret
    exact ⟨rfl, (below_first hb1).trans (hb2.mono (by have := hb1.size; simp at this; omega))⟩
  · have e : wPref b l = wNum l 1 ++ wNum b (pB l) := by unfold wPref; rw [if_neg hp]; rfl
    rw [e]; clear e
    have hp' : (pB l == 1) = false := by simpa using hp
    have s2 : (wNum b (pB l)).size ≤ 2 := by have := wNum_size b (pB l) (by omega) (by omega); omega
    go_enter Tryz.func144, Tryz.ntmps144
    go_wp2_with (first
      | (go_at_call 125; refine (prefixBytes_any _ _).mono ?_; rintro e w' ⟨rfl, rfl⟩)
      | (go_at_call_of 143 (Value.int IntKind.i64 l); refine (writeNumber_any _ _ _ (by omega) (by omega) (by omega) (by omega) (by omega)).mono ?_; rintro e w1 ⟨rfl, hb1⟩)
      | (go_at_call 143; refine (writeNumber_any _ _ _ (by omega) (by omega) (by omega) (by omega) (by omega)).mono ?_; rintro e w2 ⟨rfl, hb2⟩))
    go_ret
    exact ⟨rfl, (below_first hb1).trans (hb2.mono (by have := hb1.size; simp at this; omega))⟩
end Go.Proofs.YtgkiknfpcbcnnaaGreat
namespace Go.Proofs.YtgkiknfpcbcnnaaGreat
open Go.RowKit
set_option maxRecDepth 20000
theorem allT_get (k : Int) : ∀ (ts : List Tm) (f : Bool), allT k f ts = true → ∀ j (h : j < ts.length), isT k ts[j] = true := by
  intro ts
  induction ts with
  | nil => intro f _ j h; simp at h
  | cons t r ih =>
    intro f hf j h
    simp only [allT, Bool.and_eq_true] at hf
    cases j with
    | zero => exact hf.1.2
    | succ j => exact ih false hf.2 j (by simpa using h)
theorem isT_bd (k : Int) (t : Tm) (h : isT k t = true) : 0 ≤ t.op ∧ t.op ≤ 7 ∧ 0 ≤ t.vl ∧ t.vl ≤ mxV t.wd := by
  unfold isT at h
  simp only [Bool.and_eq_true, decide_eq_true_eq] at h
  have : opM k ≤ 7 := by unfold opM; split <;> omega
  exact ⟨h.1.1.1.2, by omega, h.1.2, h.2⟩
set_option maxHeartbeats 800000 in
theorem writePart_terms (p : Pt) (ao : Option Addr) (cap : Nat) (w : World) (hk : hasP p.ty = false) (h0 : 0 ≤ p.ty) (h1 : p.ty ≤ 255) (hlen : p.ts.length ≤ 8) (hall : allT p.ty true p.ts = true) (ht : TermsIn w ao p.ts) :
    Calls Tryz.prog 138 #[.agg #[.int .i64 p.ty, .int .i64 p.bt, .int .i64 p.ln, .slice ao p.ts.length cap]] w fun e w' => e = .returned (.string (wNum p.ty 1 ++ wTerms p.ts)) ∧ Below w.heap.size w w' := by
  have s1 : (wNum p.ty 1).size = 1 := rfl
  go_enter Tryz.func138, Tryz.ntmps138
  go_wp2_with (first
    | (go_at_call 143; refine (writeNumber_any _ _ _ (by omega) (by omega) (by omega) (by omega) (by omega)).mono ?_; rintro e w1 ⟨rfl, hb1⟩; obtain ⟨a0, a1, a2, a3, af, az⟩ := cells_of_below hb1)
    | (go_at_call 114; refine (hasPrefix_any _ _).mono ?_; rintro e w' ⟨rfl, rfl⟩))
  go_loopw [3, 20] (fun s i wr => ∃ (j : Nat) (acc : ByteArray), i = .int .i64 j ∧ s = .string acc ∧ j ≤ p.ts.length ∧ acc.size ≤ 1 + 3 * j ∧ Below (w.alloc (.cells #[.int .i64 p.ty, .int .i64 p.bt, .int .i64 p.ln, .slice ao p.ts.length cap] 140)).heap.size (w.alloc (.cells #[.int .i64 p.ty, .int .i64 p.bt, .int .i64 p.ln, .slice ao p.ts.length cap] 140)) wr ∧ Hid (acc ++ wTerms (p.ts.drop j) = wNum p.ty 1 ++ wTerms p.ts)) (fun _ i _ => p.ts.length - (intOf i).toNat)
  case atStart => exact ⟨0, _, rfl, rfl, Nat.zero_le _, by omega, hb1, rfl⟩
  case round =>
    obtain ⟨j, acc, rfl, rfl, hj, hacc, hbel, H⟩ := hrel
    clear a0 a1 a2 a3 af az hb1
    obtain ⟨a0, a1, a2, a3, af, az⟩ := cells_of_below hbel
    have hb0 := below_first hbel
    by_cases hlt : j < p.ts.length
    · obtain ⟨b, off, rfl, c0, c1, c2, c3⟩ := ht.below hb0 j hlt
      have hd : p.ts.drop j = p.ts[j] :: p.ts.drop (j + 1) := List.drop_eq_getElem_cons hlt
      have hT := isT_bd _ _ (allT_get _ _ _ hall j hlt)
      have hlast : ((j : Int) == (p.ts.length : Int) - 1) = (p.ts.drop (j + 1)).isEmpty := by
        cases hv : (p.ts.drop (j + 1)) with
        | nil => have := congrArg List.length hv; simp at this ⊢; omega
        | cons a l => have := congrArg List.length hv; simp at this ⊢; omega
      rw [hd] at H
      clear hd ht hall
      generalize p.ts[j] = t at *
      have hz : w.heap.size < wr.heap.size := az
      have hsz := wTerm_size t (p.ts.drop (j + 1)).isEmpty
      have HN : Hid ((acc ++ wTerm t (p.ts.drop (j + 1)).isEmpty) ++ wTerms (p.ts.drop (j + 1)) = wNum p.ty 1 ++ wTerms p.ts) := by
        show _ = _
        rw [← H.out, app_assoc]; rfl
      clear H
      generalize (p.ts.drop (j + 1)).isEmpty = last at *
      go_wp2_with (go_at_call 145; refine (writeTerm_any _ _ _ hT.1 hT.2.1 hT.2.2.1 hT.2.2.2).mono ?_; rintro e w2 ⟨rfl, hb2⟩)
      go_roundw
      case rel => exact ⟨j + 1, _, by go_num, rfl, by omega, by rw [ByteArray.size_append]; omega, (hbel.alloc (by simp; omega) _).trans (hb2.mono (by simp; omega)), HN⟩
      case measure => simp [intOf]; omega
    · have HN : Hid (wNum p.ty 1 ++ wTerms p.ts = acc) := by show _ = _; rw [← H.out, List.drop_of_length_le (by omega)]; exact app_nil _
      clear H ht hall
      go_wp2
      go_ret
      exact ⟨by rw [HN.out]; rfl, hb0⟩
set_option maxHeartbeats 400000 in
theorem writePart_pref (p : Pt) (ao : Option Addr) (cap : Nat) (w : World) (hk : hasP p.ty = true) (h0 : 0 ≤ p.ty) (h1 : p.ty ≤ 255) (hp : prefOK p.bt p.ln = true) :
    Calls Tryz.prog 138 #[.agg #[.int .i64 p.ty, .int .i64 p.bt, .int .i64 p.ln, .slice ao p.ts.length cap]] w fun e w' => e = .returned (.string (wNum p.ty 1 ++ wPref p.bt p.ln)) ∧ Below w.heap.size w w' := by
  have s1 : (wNum p.ty 1).size = 1 := rfl
  have s2 := wPref_size p.bt p.ln
  go_enter Tryz.func138, Tryz.ntmps138
  go_wp2_with (first
    | (go_at_call 143; refine (writeNumber_any _ _ _ (by omega) (by omega) (by omega) (by omega) (by omega)).mono ?_; rintro e w1 ⟨rfl, hb1⟩; obtain ⟨a0, a1, a2, a3, af, az⟩ := cells_of_below hb1)
    | (go_at_call 114; refine (hasPrefix_any _ _).mono ?_; rintro e w' ⟨rfl, rfl⟩)
    | (go_at_call 144; refine (writePrefix_any _ _ _ hp).mono ?_; rintro e w2 ⟨rfl, hb2⟩))
  go_ret
  exact ⟨rfl, (below_first hb1).trans (hb2.mono (by omega))⟩
theorem hasP_bd {k : Int} (h : hasP k = true) : 1 ≤ k ∧ k ≤ 2 := by simp only [hasP, decide_eq_true_eq] at h; omega
theorem hasT_bd {k : Int} (h : hasT k = true) : 3 ≤ k ∧ k ≤ 5 := by simp only [hasT, decide_eq_true_eq] at h; omega
theorem isP_pref {p : Pt} (h : isP p = true) (hk : hasP p.ty = true) : p.ts = [] ∧ prefOK p.bt p.ln = true := by
  unfold isP at h
  rw [if_pos hk] at h
  simp only [Bool.and_eq_true, decide_eq_true_eq] at h
  exact ⟨List.length_eq_zero_iff.1 h.1, h.2⟩
theorem isP_terms {p : Pt} (h : isP p = true) (hk : hasP p.ty = false) : hasT p.ty = true ∧ p.bt = 0 ∧ p.ln = 0 ∧ 1 ≤ p.ts.length ∧ p.ts.length ≤ 8 ∧ allT p.ty true p.ts = true := by
  unfold isP at h
  rw [if_neg (by simp [hk])] at h
  split at h
  · rename_i hh
    unfold areT at h
    simp only [Bool.and_eq_true, decide_eq_true_eq] at h
    exact ⟨hh, h.1.1, h.1.2, h.2.1.1, h.2.1.2, h.2.2⟩
  · cases h
theorem writePart_any (p : Pt) (ao : Option Addr) (cap : Nat) (w : World) (hp : isP p = true) (ht : TermsIn w ao p.ts) :
    Calls Tryz.prog 138 #[.agg #[.int .i64 p.ty, .int .i64 p.bt, .int .i64 p.ln, .slice ao p.ts.length cap]] w fun e w' => e = .returned (.string (wPart p)) ∧ Below w.heap.size w w' := by
  unfold wPart
  cases hk : hasP p.ty
  · obtain ⟨h1, h2, h3, h4, h5, h6⟩ := isP_terms hp hk
    have := hasT_bd h1
    exact writePart_terms p ao cap w hk (by omega) (by omega) h5 h6 ht
  · obtain ⟨h1, h2⟩ := isP_pref hp hk
    have := hasP_bd hk
    exact writePart_pref p ao cap w hk (by omega) (by omega) h2
theorem wPart_size {p : Pt} (h : isP p = true) : (wPart p).size ≤ 25 := by
  unfold wPart
  cases hk : hasP p.ty
  · obtain ⟨h1, h2, h3, h4, h5, h6⟩ := isP_terms h hk
    have := wTerms_size p.ts
    simp only [Bool.false_eq_true, if_false, ByteArray.size_append, ch_size]; omega
  · have := wPref_size p.bt p.ln
    simp only [if_true, ByteArray.size_append, ch_size]; omega
theorem isP_ty {p : Pt} (h : isP p = true) : 1 ≤ p.ty ∧ p.ty ≤ 5 := by
  cases hk : hasP p.ty
  · have := hasT_bd (isP_terms h hk).1; omega
  · have := hasP_bd hk; omega
theorem allP_get : ∀ (ps : List Pt) (b : Int), allP b ps = true → ∀ j (h : j < ps.length), isP ps[j] = true := by
  intro ps
  induction ps with
  | nil => intro b _ j h; simp at h
  | cons p r ih =>
    intro b hf j h
    simp only [allP, Bool.and_eq_true] at hf
    cases j with
    | zero => exact hf.1.2
    | succ j => exact ih _ hf.2 j (by simpa using h)
theorem allP_len : ∀ (ps : List Pt) (b : Int), 0 ≤ b → b ≤ 5 → allP b ps = true → (ps.length : Int) + b ≤ 5 := by
  intro ps
  induction ps with
  | nil => intro b _ h _; simpa using h
  | cons p r ih =>
    intro b h0 h5 hf
    simp only [allP, Bool.and_eq_true, decide_eq_true_eq] at hf
    have := isP_ty hf.1.2
    have := ih p.ty (by omega) this.2 hf.2
    simp only [List.length_cons]; omega
end Go.Proofs.YtgkiknfpcbcnnaaGreat
