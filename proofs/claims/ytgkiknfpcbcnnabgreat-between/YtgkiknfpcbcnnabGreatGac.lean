import Derived.Test.YtgkiknfpcbcnnabGreatGab
import Derived.Test.YtgkiknfpcbcnnabGreatGaa
namespace Go.Proofs.YtgkiknfpcbcnnabGreat
open Go.RowKit
set_option maxRecDepth 20000

theorem isN1 (x m : Int) : isN (x - 1) m = (decide (1 ≤ x) && decide (x ≤ m + 1)) := by
  unfold isN
  have e1 : decide (0 ≤ x - 1) = decide (1 ≤ x) := decide_eq_decide.2 (by omega)
  have e2 : decide (x - 1 ≤ m) = decide (x ≤ m + 1) := decide_eq_decide.2 (by omega)
  rw [e1, e2]
def cfV (c : Cf) : Value := .agg #[.int .i64 c.cp, .int .i64 c.bu, .int .i64 c.n0, .int .i64 c.n1, .int .i64 c.n2, .int .i64 c.n3]
def ntO (n : Int) : Bool := isN (n - 1) 65534
def ntsF (c : Cf) : Nat → Bool
  | 0 => ntO c.n0 && ntO c.n1 && ntO c.n2 && ntO c.n3
  | 1 => ntO c.n1 && ntO c.n2 && ntO c.n3
  | 2 => ntO c.n2 && ntO c.n3
  | 3 => ntO c.n3
  | _ => true
theorem cfOK_eq (c : Cf) : cfOK c = (ntsF c 0 && ((decide (1 ≤ c.cp) && decide (c.cp ≤ 128)) && (decide (1 ≤ c.bu) && decide (c.bu ≤ 64)))) := by
  unfold cfOK ntsF ntO
  rw [isN1 c.cp, isN1 c.bu]
  have e1 : (127 : Int) + 1 = 128 := by omega
  have e2 : (63 : Int) + 1 = 64 := by omega
  rw [e1, e2]
  generalize isN (c.n0 - 1) 65534 = x0
  generalize isN (c.n1 - 1) 65534 = x1
  generalize isN (c.n2 - 1) 65534 = x2
  generalize isN (c.n3 - 1) 65534 = x3
  generalize (decide (1 ≤ c.cp) && decide (c.cp ≤ 128)) = y
  generalize (decide (1 ≤ c.bu) && decide (c.bu ≤ 64)) = z
  cases x0 <;> cases x1 <;> cases x2 <;> cases x3 <;> cases y <;> cases z <;> rfl
def netI (c : Cf) (j : Nat) : Int := netF c (j : Int)
theorem ntsF_step (c : Cf) (j : Nat) (h : j < 4) : ntsF c j = (ntO (netI c j) && ntsF c (j + 1)) := by
  have : j = 0 ∨ j = 1 ∨ j = 2 ∨ j = 3 := by omega
  rcases this with rfl | rfl | rfl | rfl
  · show (ntO c.n0 && ntO c.n1 && ntO c.n2 && ntO c.n3) = (ntO c.n0 && (ntO c.n1 && ntO c.n2 && ntO c.n3))
    simp only [Bool.and_assoc]
  · show (ntO c.n1 && ntO c.n2 && ntO c.n3) = (ntO c.n1 && (ntO c.n2 && ntO c.n3))
    simp only [Bool.and_assoc]
  · rfl
  · show ntO c.n3 = (ntO c.n3 && true)
    simp

end Go.Proofs.YtgkiknfpcbcnnabGreat

namespace Go.Proofs.YtgkiknfpcbcnnabGreat
open Go.RowKit
set_option maxRecDepth 20000

/-- The blocks of a gate behind a call: those that it had, and all new ones. -/
def Fr (F : Nat → Prop) (w w' : World) : Nat → Prop := fun b => F b ∨ (w.heap.size ≤ b ∧ b < w'.heap.size)
theorem rtC_one (r : Rt) : ∀ u ∈ rtC r, u.oneCell' = true := by
  intro u hu
  simp only [rtC, List.mem_cons, List.not_mem_nil, or_false] at hu
  rcases hu with rfl | rfl | rfl | rfl <;> rfl
theorem filter_take (f : Rt → Bool) (l : List Rt) (i : Nat) (h : i < l.length) : (l.take (i + 1)).filter f = (l.take i).filter f ++ (if f l[i] then [l[i]] else []) := by
  rw [List.take_add_one, List.getElem?_eq_getElem h, List.filter_append]
  simp only [Option.toList, List.filter_cons, List.filter_nil]

end Go.Proofs.YtgkiknfpcbcnnabGreat

namespace Go.Proofs.YtgkiknfpcbcnnabGreat
open Go.RowKit
set_option maxRecDepth 20000

def upTo (n m : Int) : Bool := decide (1 ≤ n) && decide (n ≤ m)
theorem isUpTo_any (n m : Int) (w : World) :
    Calls Tryz.prog 72 #[.int .i64 n, .int .i64 m] w fun e w' => e = .returned (.bool (upTo n m)) ∧ w = w' := by
  obtain ⟨R, hR⟩ : ∃ R, R = upTo n m := ⟨_, rfl⟩
  have HR : Hid (R = upTo n m) := hR
  rw [← hR]; clear hR
  by_cases h1 : 1 ≤ n
  · by_cases h2 : n ≤ m
    · obtain rfl : R = true := by rw [HR.out]; simp [upTo, h1, h2]
      clear HR
      go_enter Tryz.func72, Tryz.ntmps72; go_wp2; go_ret; exact ⟨by simp, rfl⟩
    · obtain rfl : R = false := by rw [HR.out]; simp [upTo, h2]
      clear HR
      go_enter Tryz.func72, Tryz.ntmps72; go_wp2; go_ret; exact ⟨by simp, rfl⟩
  · obtain rfl : R = false := by rw [HR.out]; simp [upTo, h1]
    clear HR
    go_enter Tryz.func72, Tryz.ntmps72; go_wp2; go_ret; exact ⟨rfl, rfl⟩
theorem isPeer_any (n : Int) (w : World) :
    Calls Tryz.prog 66 #[.int .i64 n] w fun e w' => e = .returned (.bool (peOK n)) ∧ w = w' := by
  obtain ⟨R, hR⟩ : ∃ R, R = peOK n := ⟨_, rfl⟩
  have HR : Hid (R = peOK n) := hR
  rw [← hR]; clear hR
  by_cases h1 : 0 ≤ n
  · by_cases h2 : n < 4
    · obtain rfl : R = true := by rw [HR.out]; simp [peOK, h1]; omega
      clear HR
      go_enter Tryz.func66, Tryz.ntmps66; go_wp2; go_ret; exact ⟨by simp, rfl⟩
    · obtain rfl : R = false := by rw [HR.out]; simp [peOK]; omega
      clear HR
      go_enter Tryz.func66, Tryz.ntmps66; go_wp2; go_ret; exact ⟨by simp, rfl⟩
  · obtain rfl : R = false := by rw [HR.out]; simp [peOK, h1]
    clear HR
    go_enter Tryz.func66, Tryz.ntmps66; go_wp2; go_ret; exact ⟨rfl, rfl⟩

theorem ntO_up (n : Int) : ntO n = upTo n 65535 := by unfold ntO; rw [isN1]; rfl
theorem cfOK_up (c : Cf) : cfOK c = (ntsF c 0 && (upTo c.cp 128 && upTo c.bu 64)) := cfOK_eq c
def netA (c : Cf) : Array Value := #[.int .i64 c.n0, .int .i64 c.n1, .int .i64 c.n2, .int .i64 c.n3]

set_option maxHeartbeats 1600000 in
theorem isConfig_any (c : Cf) (w : World) : Calls Tryz.prog 65 #[cfV c] w fun e w' => e = .returned (.bool (cfOK c)) ∧ Below w.heap.size w w' := by
  have HC : Hid (cfOK c = (ntsF c 0 && (upTo c.cp 128 && upTo c.bu 64))) := cfOK_up c
  have HS : Hid (∀ j : Nat, j < 4 → ntsF c j = (upTo (netI c j) 65535 && ntsF c (j + 1))) := fun j hj => by rw [ntsF_step c j hj, ntO_up]
  obtain ⟨R, hR⟩ : ∃ R, R = cfOK c := ⟨_, rfl⟩
  have HR : Hid (R = cfOK c) := hR
  rw [← hR]; clear hR
  have i0 : ∀ w, (Instr.index 22 (.agg #[.int .i64 c.n0, .int .i64 c.n1, .int .i64 c.n2, .int .i64 c.n3]) (.int .i64 0)).run Tryz.prog w = .ok (.int .i64 c.n0) w := fun _ => by kernel_rfl
  have i1 : ∀ w, (Instr.index 22 (.agg #[.int .i64 c.n0, .int .i64 c.n1, .int .i64 c.n2, .int .i64 c.n3]) (.int .i64 1)).run Tryz.prog w = .ok (.int .i64 c.n1) w := fun _ => by kernel_rfl
  have i2 : ∀ w, (Instr.index 22 (.agg #[.int .i64 c.n0, .int .i64 c.n1, .int .i64 c.n2, .int .i64 c.n3]) (.int .i64 2)).run Tryz.prog w = .ok (.int .i64 c.n2) w := fun _ => by kernel_rfl
  have i3 : ∀ w, (Instr.index 22 (.agg #[.int .i64 c.n0, .int .i64 c.n1, .int .i64 c.n2, .int .i64 c.n3]) (.int .i64 3)).run Tryz.prog w = .ok (.int .i64 c.n3) w := fun _ => by kernel_rfl
  unfold cfV
  go_enter Tryz.func65, Tryz.ntmps65
  go_wp2_with fail
  go_loop [7] (fun x => ∃ j : Nat, x = .int .i64 j ∧ j ≤ 4 ∧ Hid (ntsF c 0 = ntsF c j)) (fun x => 4 - (intOf x).toNat)
  case atStart => exact ⟨0, rfl, by omega, rfl⟩
  case round =>
    obtain ⟨j, rfl, hj, H⟩ := hrel
    by_cases hlt : j < 4
    · have hs := HS.out j hlt
      rw [hs] at H
      clear hs HS
      cases hup : upTo (netI c j) 65535
      · have HF : Hid (R = false) := by
          show _ = _
          rw [HR.out, HC.out, H.out, hup]
          rfl
        have HU : Hid (upTo (netI c j) 65535 = false) := hup
        clear hup H HC HR
        have : j = 0 ∨ j = 1 ∨ j = 2 ∨ j = 3 := by omega
        rcases this with rfl | rfl | rfl | rfl
        all_goals
          go_wp2_with (go_at_call 72; refine (isUpTo_any _ _ _).mono ?_; rintro e w' ⟨rfl, rfl⟩; first | rw [show upTo c.n0 65535 = false from HU.out] | rw [show upTo c.n1 65535 = false from HU.out] | rw [show upTo c.n2 65535 = false from HU.out] | rw [show upTo c.n3 65535 = false from HU.out])
          go_ret
          exact ⟨by rw [HF.out]; rfl, below_alloc _ _⟩
      · have HF : Hid (ntsF c 0 = ntsF c (j + 1)) := by
          show _ = _
          rw [H.out, hup]
          rfl
        have HU : Hid (upTo (netI c j) 65535 = true) := hup
        clear hup H
        have : j = 0 ∨ j = 1 ∨ j = 2 ∨ j = 3 := by omega
        rcases this with rfl | rfl | rfl | rfl
        all_goals
          go_wp2_with (go_at_call 72; refine (isUpTo_any _ _ _).mono ?_; rintro e w' ⟨rfl, rfl⟩; first | rw [show upTo c.n0 65535 = true from HU.out] | rw [show upTo c.n1 65535 = true from HU.out] | rw [show upTo c.n2 65535 = true from HU.out] | rw [show upTo c.n3 65535 = true from HU.out])
          go_round
          case rel =>
            refine ⟨_, ?_, ?_, HF⟩
            · rfl
            · omega
          case measure => simp [intOf]
    · obtain rfl : j = 4 := by omega
      have HF : Hid (R = (upTo c.cp 128 && upTo c.bu 64)) := by
        show _ = _
        rw [HR.out, HC.out, H.out]
        rfl
      clear H HC HS HR hlt
      cases h1 : upTo c.cp 128
      · have HU : Hid (upTo c.cp 128 = false) := h1
        clear h1
        go_wp2_with (go_at_call 72; refine (isUpTo_any _ _ _).mono ?_; rintro e w' ⟨rfl, rfl⟩; rw [HU.out])
        go_ret
        exact ⟨by rw [HF.out, HU.out]; rfl, below_alloc _ _⟩
      · have HU : Hid (upTo c.cp 128 = true) := h1
        clear h1
        go_wp2_with (go_at_call 72; refine (isUpTo_any _ _ _).mono ?_; rintro e w' ⟨rfl, rfl⟩; try rw [HU.out])
        go_ret
        exact ⟨by rw [HF.out, HU.out]; rfl, below_alloc _ _⟩

/-- The landed gate in memory: its struct in block g, all of it in blocks of F; the rules stand in the order of Status. -/
def clC (r : Rl) : List Value := [.int .i64 r.pe, .string r.tx, .int .i64 r.ac]
def clCs (l : List Rl) : List Value := l.flatMap clC
structure LGate (w : World) (g : Nat) (st : Gs) (F : Nat → Prop) : Prop where
  ex : ∃ rv lv, w.heap[g]? = some (.cells #[.int .i64 st.c.cp, .int .i64 st.c.bu, .int .i64 st.c.n0, .int .i64 st.c.n1, .int .i64 st.c.n2, .int .i64 st.c.n3, rv, lv] 74 (0, 0)) ∧
    w.ownsRow 0 144 4 rv st.rts.length (rtCs st.rts) ∧ w.ownsRow 0 118 3 lv st.rls.length (clCs st.rls) ∧
    (∀ b, rv.ownBlock = some b → F b ∧ b ≠ g) ∧ (∀ b, lv.ownBlock = some b → F b ∧ b ≠ g) ∧ (∀ b, rv.ownBlock = some b → lv.ownBlock ≠ some b)
  own : F g
  ok : GsOK st
  srt : Srt st.rls
  sz : ∀ r ∈ st.rls, r.tx.size ≤ 140737488351232
  lt : ∀ b, F b → b < w.heap.size
theorem LGate.same {w w' : World} {g : Nat} {st : Gs} {F : Nat → Prop} (h : LGate w g st F) (hz : w.heap.size ≤ w'.heap.size) (hs : ∀ b, F b → w'.heap[b]? = w.heap[b]?) : LGate w' g st F := by
  obtain ⟨rv, lv, h1, h2, h3, h4, h5, h6⟩ := h.ex
  exact ⟨⟨rv, lv, by rw [hs g h.own]; exact h1, ownsRow_same h2 (fun b hb => hs b (h4 b hb).1), ownsRow_same h3 (fun b hb => hs b (h5 b hb).1), h4, h5, h6⟩, h.own, h.ok, h.srt, h.sz, fun b hb => by have := h.lt b hb; omega⟩

set_option maxHeartbeats 800000 in
theorem landNew_any (c : Cf) (w : World) : Calls Tryz.prog 43 #[cfV c] w fun e w' => (if cfOK c then ∃ x F, e = .returned (.tuple #[ptrV x, .int .i64 0]) ∧ LGate w' x ⟨c, [], []⟩ F ∧ ∀ b, F b → w.heap.size ≤ b else e = .returned (.tuple #[.pointer none, .int .i64 5])) ∧ Below w.heap.size w w' := by
  have HM : Hid (∀ w, Calls Tryz.prog 65 #[cfV c] w fun e w' => e = .returned (.bool (cfOK c)) ∧ Below w.heap.size w w') := isConfig_any c
  unfold cfV at HM ⊢
  cases hc : cfOK c
  · rw [hc] at HM
    simp only [Bool.false_eq_true, if_false]
    clear hc
    go_enter Tryz.func43, Tryz.ntmps43
    go_wp2_with fail
    refine (HM.out _).mono ?_
    rintro e w1 ⟨rfl, hb1⟩
    go_wp2_with fail
    go_ret2
    exact ⟨rfl, below_first hb1⟩
  · rw [hc] at HM
    simp only [if_true]
    have HO : Hid (GsOK ⟨c, [], []⟩) := GsOK.new hc
    clear hc
    go_enter Tryz.func43, Tryz.ntmps43
    go_wp2_with fail
    refine (HM.out _).mono ?_
    rintro e w1 ⟨rfl, hb1⟩
    obtain ⟨cp, bu, n0, n1, n2, n3⟩ := c
    simp only [] at hb1
    obtain ⟨a0, a1, a2, a3, a4, a5, az⟩ := cells_six hb1
    go_wp2_with fail
    go_ret2
    have hb := below_first hb1
    have hz := hb.size
    refine ⟨⟨w1.heap.size, fun b => b = w1.heap.size, rfl, ⟨⟨.slice none 0 0, .slice none 0 0, heap_alloc_new w1 _, World.ownsRow_nil _ _ _ _, World.ownsRow_nil _ _ _ _, by simp [Value.ownBlock], by simp [Value.ownBlock], by simp [Value.ownBlock]⟩, rfl, HO.out, List.Pairwise.nil, by simp, fun b hb => by subst hb; simp⟩, fun b hb => by omega⟩, hb.alloc hz _⟩
end Go.Proofs.YtgkiknfpcbcnnabGreat
