import Derived.Test.YtgkiknfpcbcnnaaGreatGab
import Derived.Test.YtgkiknfpcbcnnaaGreatGaa
namespace Go.Proofs.YtgkiknfpcbcnnaaGreat
open Go.RowKit
set_option maxRecDepth 20000
theorem isN1 (x m : Int) : isN (x - 1) m = (decide (1 ≤ x) && decide (x ≤ m + 1)) := by
  unfold isN
  have e1 : decide (0 ≤ x - 1) = decide (1 ≤ x) := decide_eq_decide.2 (by omega)
  have e2 : decide (x - 1 ≤ m) = decide (x ≤ m + 1) := decide_eq_decide.2 (by omega)
  rw [e1, e2]
def cfV (c : Cf) : Value := .agg #[.int .i64 c.cp, .int .i64 c.bu, .int .i64 c.n0, .int .i64 c.n1, .int .i64 c.n2, .int .i64 c.n3]
def ntO (n : Int) : Bool := isN (n - 1) 65534
def ntsF (c : Cf) : Nat → Bool
  | 0 => ntO c.n0 && ntO c.n1 && ntO c.n2 && ntO c.n3
  | 1 => ntO c.n1 && ntO c.n2 && ntO c.n3
  | 2 => ntO c.n2 && ntO c.n3
  | 3 => ntO c.n3
  | _ => true
theorem cfOK_eq (c : Cf) : cfOK c = (ntsF c 0 && ((decide (1 ≤ c.cp) && decide (c.cp ≤ 128)) && (decide (1 ≤ c.bu) && decide (c.bu ≤ 64)))) := by
  unfold cfOK ntsF ntO
  rw [isN1 c.cp, isN1 c.bu]
  have e1 : (127 : Int) + 1 = 128 := by omega
  have e2 : (63 : Int) + 1 = 64 := by omega
  rw [e1, e2]
  generalize isN (c.n0 - 1) 65534 = x0
  generalize isN (c.n1 - 1) 65534 = x1
  generalize isN (c.n2 - 1) 65534 = x2
  generalize isN (c.n3 - 1) 65534 = x3
  generalize (decide (1 ≤ c.cp) && decide (c.cp ≤ 128)) = y
  generalize (decide (1 ≤ c.bu) && decide (c.bu ≤ 64)) = z
  cases x0 <;> cases x1 <;> cases x2 <;> cases x3 <;> cases y <;> cases z <;> rfl
def netI (c : Cf) (j : Nat) : Int := netF c (j : Int)
theorem ntsF_step (c : Cf) (j : Nat) (h : j < 4) : ntsF c j = (ntO (netI c j) && ntsF c (j + 1)) := by
  have : j = 0 ∨ j = 1 ∨ j = 2 ∨ j = 3 := by omega
  rcases this with rfl | rfl | rfl | rfl
  · show (ntO c.n0 && ntO c.n1 && ntO c.n2 && ntO c.n3) = (ntO c.n0 && (ntO c.n1 && ntO c.n2 && ntO c.n3))
    simp only [Bool.and_assoc]
  · show (ntO c.n1 && ntO c.n2 && ntO c.n3) = (ntO c.n1 && (ntO c.n2 && ntO c.n3))
    simp only [Bool.and_assoc]
  · rfl
  · show ntO c.n3 = (ntO c.n3 && true)
    simp
set_option maxHeartbeats 1600000 in
theorem may_any (c : Cf) (w : World) : Calls Tryz.prog 21 #[cfV c] w fun e w' => e = .returned (.bool (cfOK c)) ∧ Below w.heap.size w w' := by
  have HC : Hid (cfOK c = (ntsF c 0 && ((decide (1 ≤ c.cp) && decide (c.cp ≤ 128)) && (decide (1 ≤ c.bu) && decide (c.bu ≤ 64))))) := cfOK_eq c
  have HN : Hid (∀ j : Nat, j < 4 → (w.alloc (.cells #[.int .i64 c.cp, .int .i64 c.bu, .int .i64 c.n0, .int .i64 c.n1, .int .i64 c.n2, .int .i64 c.n3] 34)).cell? ⟨w.heap.size, 2 + j, none⟩ = some (.int .i64 (netI c j))) := by
    intro j hj
    have : j = 0 ∨ j = 1 ∨ j = 2 ∨ j = 3 := by omega
    rcases this with rfl | rfl | rfl | rfl <;> simp [go_sem, netI, netF]
  have HS : Hid (∀ j : Nat, j < 4 → ntsF c j = (ntO (netI c j) && ntsF c (j + 1))) := ntsF_step c
  unfold cfV
  go_enter Tryz.func21, Tryz.ntmps21
  go_wp2_with fail
  go_loop [3] (fun x => ∃ j : Nat, x = .int .i64 j ∧ j ≤ 4 ∧ Hid (ntsF c 0 = ntsF c j)) (fun x => 4 - (intOf x).toNat)
  case atStart => exact ⟨0, rfl, by omega, rfl⟩
  case round =>
    obtain ⟨j, rfl, hj, H⟩ := hrel
    by_cases hlt : j < 4
    · have n1 := HN.out j hlt
      have hs := HS.out j hlt
      rw [hs] at H
      have i1 : (j : Int) < 4 := by omega
      clear hs HS HN
      by_cases o1 : netI c j < 1
      · have HF : Hid (cfOK c = false) := by
          show _ = _
          rw [HC.out, H.out]
          unfold ntO
          rw [isN1, decide_eq_false (by omega)]
          rfl
        have g1 : decide (netI c j < 1) = true := by simpa using o1
        clear H HC
        generalize netI c j = n at *
        go_wp2_with fail
        go_ret
        exact ⟨by rw [HF.out]; rfl, below_alloc _ _⟩
      · by_cases o2 : 65535 < netI c j
        · have HF : Hid (cfOK c = false) := by
            show _ = _
            rw [HC.out, H.out]
            unfold ntO
            rw [isN1, decide_eq_false (p := netI c j ≤ 65534 + 1) (by omega), Bool.and_false]
            rfl
          have g1 : decide (netI c j < 1) = false := by simpa using o1
          have g2 : decide (65535 < netI c j) = true := by simpa using o2
          clear H HC
          generalize netI c j = n at *
          go_wp2_with fail
          go_ret
          exact ⟨by rw [HF.out]; rfl, below_alloc _ _⟩
        · have HN2 : Hid (ntsF c 0 = ntsF c (j + 1)) := by
            show _ = _
            rw [H.out]
            unfold ntO
            rw [isN1, decide_eq_true (p := 1 ≤ netI c j) (by omega), decide_eq_true (p := netI c j ≤ 65534 + 1) (by omega)]
            rfl
          have g1 : decide (netI c j < 1) = false := by simpa using o1
          have g2 : decide (65535 < netI c j) = false := by simpa using o2
          clear H HC
          generalize netI c j = n at *
          go_wp2_with fail
          go_round
          case rel => exact ⟨j + 1, by go_num, by omega, HN2⟩
          case measure => simp [intOf]; omega
    · obtain rfl : j = 4 := by omega
      have HF : Hid (cfOK c = ((decide (1 ≤ c.cp) && decide (c.cp ≤ 128)) && (decide (1 ≤ c.bu) && decide (c.bu ≤ 64)))) := by
        show _ = _
        rw [HC.out, H.out]
        rfl
      clear H HC HN HS
      obtain ⟨cp, bu, n0, n1, n2, n3⟩ := c
      simp only [] at HF
      cases a1 : decide (1 ≤ cp) <;> cases a2 : decide (cp ≤ 128) <;> cases a3 : decide (1 ≤ bu) <;> cases a4 : decide (bu ≤ 64)
      all_goals
        rw [a1, a2, a3, a4] at HF
        go_wp2_with fail
        go_ret
        exact ⟨by rw [HF.out]; rfl, below_alloc _ _⟩
theorem refNew_any (c : Cf) (w : World) : Calls Tryz.prog 12 #[cfV c] w fun e w' => (if cfOK c then ∃ g, e = .returned (.tuple #[.pointer (some ⟨g, 0, none⟩), .int .i64 0]) ∧ RGate w' g ⟨c, [], []⟩ (fun b => b = g) ∧ w.heap.size ≤ g else e = .returned (.tuple #[.pointer none, .int .i64 5])) ∧ Below w.heap.size w w' := by
  have HM : Hid (∀ w, Calls Tryz.prog 21 #[cfV c] w fun e w' => e = .returned (.bool (cfOK c)) ∧ Below w.heap.size w w') := may_any c
  unfold cfV at HM ⊢
  cases hc : cfOK c
  · rw [hc] at HM
    simp only [Bool.false_eq_true, if_false]
    clear hc
    go_enter Tryz.func12, Tryz.ntmps12
    go_wp2_with fail
    refine (HM.out _).mono ?_
    rintro e w1 ⟨rfl, hb1⟩
    go_wp2_with fail
    go_ret2
    exact ⟨rfl, below_first hb1⟩
  · rw [hc] at HM
    simp only [if_true]
    have HO : Hid (GsOK ⟨c, [], []⟩) := GsOK.new hc
    clear hc
    go_enter Tryz.func12, Tryz.ntmps12
    go_wp2_with fail
    refine (HM.out _).mono ?_
    rintro e w1 ⟨rfl, hb1⟩
    obtain ⟨cp, bu, n0, n1, n2, n3⟩ := c
    simp only [] at hb1
    obtain ⟨a0, a1, a2, a3, a4, a5, az⟩ := cells_six hb1
    go_wp2_with fail
    go_ret2
    have hb := below_first hb1
    have hz := hb.size
    refine ⟨⟨w1.heap.size, rfl, ⟨⟨.slice none 0 0, .slice none 0 0, [], heap_alloc_new w1 _, World.ownsRow_nil _ _ _ _, World.ownsRow_nil _ _ _ _, rfl, by simp, by simp [Value.ownBlock], by simp [Value.ownBlock]⟩, rfl, HO.out, fun b hb => by subst hb; simp⟩, hz⟩, hb.alloc hz _⟩
end Go.Proofs.YtgkiknfpcbcnnaaGreat
namespace Go.Proofs.YtgkiknfpcbcnnaaGreat
open Go.RowKit
set_option maxRecDepth 20000
def Fr (F : Nat → Prop) (w w' : World) : Nat → Prop := fun b => F b ∨ (w.heap.size ≤ b ∧ b < w'.heap.size)
theorem RGate.mono {w : World} {g : Nat} {st : Gs} {F G : Nat → Prop} (h : RGate w g st F) (hG : ∀ b, F b → G b) (hl : ∀ b, G b → b < w.heap.size) : RGate w g st G := by
  obtain ⟨rv, lv, qs, h1, h2, h3, h4, h5, h6, h7⟩ := h.ex
  exact ⟨⟨rv, lv, qs, h1, h2, h3, h4, fun s hs => (h5 s hs).mono (fun b hb => ⟨hG b hb.1, hb.2⟩), fun b hb => ⟨hG b (h6 b hb).1, (h6 b hb).2⟩, fun b hb => ⟨hG b (h7 b hb).1, (h7 b hb).2⟩⟩, hG g h.own, h.ok, hl⟩
theorem RGate.still {w w' : World} {g : Nat} {st : Gs} {F : Nat → Prop} (h : RGate w g st F) (hb : Below w.heap.size w w') : RGate w' g st (Fr F w w') :=
  (h.same hb.size (fun b hf => hb.block b (h.lt b hf))).mono (fun _ hf => .inl hf) (fun b hf => by
    rcases hf with hf | hf
    · have := h.lt b hf; have := hb.size; omega
    · exact hf.2)
def RPost (F : Nat → Prop) (w : World) (g : Nat) (x : Int) (st : Gs) (e : Ending) (w' : World) : Prop :=
  e = .returned (.int .i64 x) ∧ RGate w' g st (Fr F w w') ∧ Off F w w'
theorem RPost.no {F : Nat → Prop} {w w' : World} {g : Nat} {st st' : Gs} {x y : Int} (h : RGate w g st F) (hb : Below w.heap.size w w') (hx : Hid (x = y)) (hs : Hid (st' = st)) : RPost F w g x st' (.returned (.int .i64 y)) w' :=
  ⟨by rw [hx.out], by rw [hs.out]; exact h.still hb, Off.of hb⟩
theorem RGate.setR {w w4 : World} {g : Nat} {st : Gs} {F : Nat → Prop} {v : Value} {rts : List Rt} (h : RGate w g st F) (hb : Below w.heap.size w w4) (hrow : w4.ownsRow w.heap.size 104 4 v rts.length (rtCs rts)) (hok : GsOK { st with rts := rts }) :
    RGate (w4.setCell ⟨g, 6, none⟩ v) g { st with rts := rts } (Fr F w (w4.setCell ⟨g, 6, none⟩ v)) ∧ Off F w (w4.setCell ⟨g, 6, none⟩ v) := by
  obtain ⟨rv, lv, qs, h1, h2, h3, h4, h5, h6, h7⟩ := h.ex
  have hg := h.lt g h.own
  have hsz : (w4.setCell ⟨g, 6, none⟩ v).heap.size = w4.heap.size := by simp only [World.setCell, Array.size_modify]
  have hz := hb.size
  have e1 : w4.heap[g]? = _ := (hb.block g hg).trans h1
  have e2 := heap_setCell_same w4 g 6 _ _ v e1
  have oth : ∀ b, b ≠ g → (w4.setCell ⟨g, 6, none⟩ v).heap[b]? = w4.heap[b]? := fun b hne => Below.heap_setCell _ _ _ _ hne
  have old : ∀ b, F b → b ≠ g → (w4.setCell ⟨g, 6, none⟩ v).heap[b]? = w.heap[b]? := fun b hf hne => (oth b hne).trans (hb.block b (h.lt b hf))
  refine ⟨⟨⟨v, lv, qs, e2, ownsRow_base (ownsRow_same hrow (fun b hbk => oth b (fun e => by have := (hrow.lt b hbk).1; omega))) (Nat.zero_le _), ownsRow_same h3 (fun b hbk => old b (h7 b hbk).1 (h7 b hbk).2), h4, ?_, ?_, fun b hbk => ⟨.inl (h7 b hbk).1, (h7 b hbk).2⟩⟩, .inl h.own, hok, ?_⟩, (Off.of hb).setCell (.inl h.own) v⟩
  · intro s hs
    exact ((h5 s hs).same (fun b hf => old b hf.1 hf.2)).mono (fun b hf => ⟨.inl hf.1, hf.2⟩)
  · intro b hbk
    have := hrow.lt b hbk
    exact ⟨.inr ⟨this.1, by rw [hsz]; exact this.2⟩, by omega⟩
  · intro b hf
    rcases hf with hf | hf
    · have := h.lt b hf; omega
    · exact hf.2
theorem infoRoute : (Tryz.prog.info? 104).map (fun i => (i.zero, i.size, i.bytes)) = some (some (.agg #[.int .i64 0, .int .i64 0, .int .i64 0, .int .i64 0]), 4, 32) := by kernel_rfl
theorem rtC_one (r : Rt) : ∀ u ∈ rtC r, u.oneCell' = true := by
  intro u hu
  simp only [rtC, List.mem_cons, List.not_mem_nil, or_false] at hu
  rcases hu with rfl | rfl | rfl | rfl <;> rfl
def RRow (w : World) (B : Nat) (v : Value) (l : List Rt) : Prop := w.ownsRow B 104 4 v l.length (rtCs l)
theorem RRow.nil (w : World) (B : Nat) : RRow w B (.slice none 0 0) [] := World.ownsRow_nil _ _ _ _
theorem RRow.snoc {w : World} {B : Nat} {v : Value} {l : List Rt} {r : Rt} (h : w.ownsRow B 104 4 v (l.length + 1) (rtCs l ++ rtC r)) : RRow w B v (l ++ [r]) := by
  have e : rtCs (l ++ [r]) = rtCs l ++ rtC r := by simp [rtCs]
  unfold RRow; rw [e, List.length_append]; exact h
theorem filter_take (f : Rt → Bool) (l : List Rt) (i : Nat) (h : i < l.length) : (l.take (i + 1)).filter f = (l.take i).filter f ++ (if f l[i] then [l[i]] else []) := by
  rw [List.take_add_one, List.getElem?_eq_getElem h, List.filter_append]
  simp only [Option.toList, List.filter_cons, List.filter_nil]
theorem RGate.read {w : World} {g : Nat} {st : Gs} {F : Nat → Prop} (h : RGate w g st F) : ∃ ao cap, GRead w g st.c ao cap st.rts ∧ w.frozen? ⟨g, 6, none⟩ = false ∧ w.frozen? ⟨g, 7, none⟩ = false := by
  obtain ⟨rv, lv, qs, h1, h2, h3, h4, h5, h6, h7⟩ := h.ex
  obtain ⟨ao, cap, rfl⟩ := ownsRow_shape h2
  have c : ∀ j, w.cell? ⟨g, j, none⟩ = _ := fun j => cell_of_row w g j _ _ _ h1
  refine ⟨ao, cap, ⟨c 0, c 1, ?_, c 6, h.lt g h.own, RtIn.of h2, h.ok.r24, h.ok.rt⟩, frozen_of_row _ _ _ _ _ h1, frozen_of_row _ _ _ _ _ h1⟩
  intro i hi
  have : i = 0 ∨ i = 1 ∨ i = 2 ∨ i = 3 := by omega
  rcases this with rfl | rfl | rfl | rfl
  · exact c 2
  · exact c 3
  · exact c 4
  · exact c 5
end Go.Proofs.YtgkiknfpcbcnnaaGreat
namespace Go.Proofs.YtgkiknfpcbcnnaaGreat
open Go.RowKit
set_option maxRecDepth 20000
def upTo (n m : Int) : Bool := decide (1 ≤ n) && decide (n ≤ m)
theorem isUpTo_any (n m : Int) (w : World) :
    Calls Tryz.prog 41 #[.int .i64 n, .int .i64 m] w fun e w' => e = .returned (.bool (upTo n m)) ∧ w = w' := by
  obtain ⟨R, hR⟩ : ∃ R, R = upTo n m := ⟨_, rfl⟩
  have HR : Hid (R = upTo n m) := hR
  rw [← hR]; clear hR
  by_cases h1 : 1 ≤ n
  · by_cases h2 : n ≤ m
    · obtain rfl : R = true := by rw [HR.out]; simp [upTo, h1, h2]
      clear HR
      go_enter Tryz.func41, Tryz.ntmps41; go_wp2; go_ret; exact ⟨by simp, rfl⟩
    · obtain rfl : R = false := by rw [HR.out]; simp [upTo, h2]
      clear HR
      go_enter Tryz.func41, Tryz.ntmps41; go_wp2; go_ret; exact ⟨by simp, rfl⟩
  · obtain rfl : R = false := by rw [HR.out]; simp [upTo, h1]
    clear HR
    go_enter Tryz.func41, Tryz.ntmps41; go_wp2; go_ret; exact ⟨rfl, rfl⟩
theorem isPeer_any (n : Int) (w : World) :
    Calls Tryz.prog 58 #[.int .i64 n] w fun e w' => e = .returned (.bool (peOK n)) ∧ w = w' := by
  obtain ⟨R, hR⟩ : ∃ R, R = peOK n := ⟨_, rfl⟩
  have HR : Hid (R = peOK n) := hR
  rw [← hR]; clear hR
  by_cases h1 : 0 ≤ n
  · by_cases h2 : n < 4
    · obtain rfl : R = true := by rw [HR.out]; simp [peOK, h1]; omega
      clear HR
      go_enter Tryz.func58, Tryz.ntmps58; go_wp2; go_ret; exact ⟨by simp, rfl⟩
    · obtain rfl : R = false := by rw [HR.out]; simp [peOK]; omega
      clear HR
      go_enter Tryz.func58, Tryz.ntmps58; go_wp2; go_ret; exact ⟨by simp, rfl⟩
  · obtain rfl : R = false := by rw [HR.out]; simp [peOK, h1]
    clear HR
    go_enter Tryz.func58, Tryz.ntmps58; go_wp2; go_ret; exact ⟨rfl, rfl⟩
theorem ntO_up (n : Int) : ntO n = upTo n 65535 := by unfold ntO; rw [isN1]; rfl
theorem cfOK_up (c : Cf) : cfOK c = (ntsF c 0 && (upTo c.cp 128 && upTo c.bu 64)) := cfOK_eq c
set_option maxHeartbeats 1600000 in
theorem isConfig_any (c : Cf) (w : World) : Calls Tryz.prog 20 #[cfV c] w fun e w' => e = .returned (.bool (cfOK c)) ∧ Below w.heap.size w w' := by
  have HC : Hid (cfOK c = (ntsF c 0 && (upTo c.cp 128 && upTo c.bu 64))) := cfOK_up c
  have HS : Hid (∀ j : Nat, j < 4 → ntsF c j = (upTo (netI c j) 65535 && ntsF c (j + 1))) := fun j hj => by rw [ntsF_step c j hj, ntO_up]
  obtain ⟨R, hR⟩ : ∃ R, R = cfOK c := ⟨_, rfl⟩
  have HR : Hid (R = cfOK c) := hR
  rw [← hR]; clear hR
  have i0 : ∀ w, (Instr.index 32 (.agg #[.int .i64 c.n0, .int .i64 c.n1, .int .i64 c.n2, .int .i64 c.n3]) (.int .i64 0)).run Tryz.prog w = .ok (.int .i64 c.n0) w := fun _ => by kernel_rfl
  have i1 : ∀ w, (Instr.index 32 (.agg #[.int .i64 c.n0, .int .i64 c.n1, .int .i64 c.n2, .int .i64 c.n3]) (.int .i64 1)).run Tryz.prog w = .ok (.int .i64 c.n1) w := fun _ => by kernel_rfl
  have i2 : ∀ w, (Instr.index 32 (.agg #[.int .i64 c.n0, .int .i64 c.n1, .int .i64 c.n2, .int .i64 c.n3]) (.int .i64 2)).run Tryz.prog w = .ok (.int .i64 c.n2) w := fun _ => by kernel_rfl
  have i3 : ∀ w, (Instr.index 32 (.agg #[.int .i64 c.n0, .int .i64 c.n1, .int .i64 c.n2, .int .i64 c.n3]) (.int .i64 3)).run Tryz.prog w = .ok (.int .i64 c.n3) w := fun _ => by kernel_rfl
  unfold cfV
  go_enter Tryz.func20, Tryz.ntmps20
  go_wp2_with fail
  go_loop [7] (fun x => ∃ j : Nat, x = .int .i64 j ∧ j ≤ 4 ∧ Hid (ntsF c 0 = ntsF c j)) (fun x => 4 - (intOf x).toNat)
  case atStart => exact ⟨0, rfl, by omega, rfl⟩
  case round =>
    obtain ⟨j, rfl, hj, H⟩ := hrel
    by_cases hlt : j < 4
    · have hs := HS.out j hlt
      rw [hs] at H
      clear hs HS
      cases hup : upTo (netI c j) 65535
      · have HF : Hid (R = false) := by
          show _ = _
          rw [HR.out, HC.out, H.out, hup]
          rfl
        have HU : Hid (upTo (netI c j) 65535 = false) := hup
        clear hup H HC HR
        have : j = 0 ∨ j = 1 ∨ j = 2 ∨ j = 3 := by omega
        rcases this with rfl | rfl | rfl | rfl
        all_goals
          go_wp2_with (go_at_call 41; refine (isUpTo_any _ _ _).mono ?_; rintro e w' ⟨rfl, rfl⟩; first | rw [show upTo c.n0 65535 = false from HU.out] | rw [show upTo c.n1 65535 = false from HU.out] | rw [show upTo c.n2 65535 = false from HU.out] | rw [show upTo c.n3 65535 = false from HU.out])
          go_ret
          exact ⟨by rw [HF.out]; rfl, below_alloc _ _⟩
      · have HF : Hid (ntsF c 0 = ntsF c (j + 1)) := by
          show _ = _
          rw [H.out, hup]
          rfl
        have HU : Hid (upTo (netI c j) 65535 = true) := hup
        clear hup H
        have : j = 0 ∨ j = 1 ∨ j = 2 ∨ j = 3 := by omega
        rcases this with rfl | rfl | rfl | rfl
        all_goals
          go_wp2_with (go_at_call 41; refine (isUpTo_any _ _ _).mono ?_; rintro e w' ⟨rfl, rfl⟩; first | rw [show upTo c.n0 65535 = true from HU.out] | rw [show upTo c.n1 65535 = true from HU.out] | rw [show upTo c.n2 65535 = true from HU.out] | rw [show upTo c.n3 65535 = true from HU.out])
          go_round
          case rel =>
            refine ⟨_, ?_, ?_, HF⟩
            · rfl
            · omega
          case measure => simp [intOf]
    · obtain rfl : j = 4 := by omega
      have HF : Hid (R = (upTo c.cp 128 && upTo c.bu 64)) := by
        show _ = _
        rw [HR.out, HC.out, H.out]
        rfl
      clear H HC HS HR hlt
      cases h1 : upTo c.cp 128
      · have HU : Hid (upTo c.cp 128 = false) := h1
        clear h1
        go_wp2_with (go_at_call 41; refine (isUpTo_any _ _ _).mono ?_; rintro e w' ⟨rfl, rfl⟩; rw [HU.out])
        go_ret
        exact ⟨by rw [HF.out, HU.out]; rfl, below_alloc _ _⟩
      · have HU : Hid (upTo c.cp 128 = true) := h1
        clear h1
        go_wp2_with (go_at_call 41; refine (isUpTo_any _ _ _).mono ?_; rintro e w' ⟨rfl, rfl⟩; try rw [HU.out])
        go_ret
        exact ⟨by rw [HF.out, HU.out]; rfl, below_alloc _ _⟩
def clC (r : Rl) : List Value := [.int .i64 r.pe, .string r.tx, .int .i64 r.ac]
def clCs (l : List Rl) : List Value := l.flatMap clC
structure LGate (w : World) (g : Nat) (st : Gs) (F : Nat → Prop) : Prop where
  ex : ∃ rv lv, w.heap[g]? = some (.cells #[.int .i64 st.c.cp, .int .i64 st.c.bu, .int .i64 st.c.n0, .int .i64 st.c.n1, .int .i64 st.c.n2, .int .i64 st.c.n3, rv, lv] 73 (0, 0)) ∧
    w.ownsRow 0 100 4 rv st.rts.length (rtCs st.rts) ∧ w.ownsRow 0 110 3 lv st.rls.length (clCs st.rls) ∧
    (∀ b, rv.ownBlock = some b → F b ∧ b ≠ g) ∧ (∀ b, lv.ownBlock = some b → F b ∧ b ≠ g) ∧ (∀ b, rv.ownBlock = some b → lv.ownBlock ≠ some b)
  own : F g
  ok : GsOK st
  srt : Srt st.rls
  sz : ∀ r ∈ st.rls, r.tx.size ≤ 140737488351232
  lt : ∀ b, F b → b < w.heap.size
theorem LGate.same {w w' : World} {g : Nat} {st : Gs} {F : Nat → Prop} (h : LGate w g st F) (hz : w.heap.size ≤ w'.heap.size) (hs : ∀ b, F b → w'.heap[b]? = w.heap[b]?) : LGate w' g st F := by
  obtain ⟨rv, lv, h1, h2, h3, h4, h5, h6⟩ := h.ex
  exact ⟨⟨rv, lv, by rw [hs g h.own]; exact h1, ownsRow_same h2 (fun b hb => hs b (h4 b hb).1), ownsRow_same h3 (fun b hb => hs b (h5 b hb).1), h4, h5, h6⟩, h.own, h.ok, h.srt, h.sz, fun b hb => by have := h.lt b hb; omega⟩
set_option maxHeartbeats 800000 in
theorem landNew_any (c : Cf) (w : World) : Calls Tryz.prog 11 #[cfV c] w fun e w' => (if cfOK c then ∃ x F, e = .returned (.tuple #[ptrV x, .int .i64 0]) ∧ LGate w' x ⟨c, [], []⟩ F ∧ ∀ b, F b → w.heap.size ≤ b else e = .returned (.tuple #[.pointer none, .int .i64 5])) ∧ Below w.heap.size w w' := by
  have HM : Hid (∀ w, Calls Tryz.prog 20 #[cfV c] w fun e w' => e = .returned (.bool (cfOK c)) ∧ Below w.heap.size w w') := isConfig_any c
  unfold cfV at HM ⊢
  cases hc : cfOK c
  · rw [hc] at HM
    simp only [Bool.false_eq_true, if_false]
    clear hc
    go_enter Tryz.func11, Tryz.ntmps11
    go_wp2_with fail
    refine (HM.out _).mono ?_
    rintro e w1 ⟨rfl, hb1⟩
    go_wp2_with fail
    go_ret2
    exact ⟨rfl, below_first hb1⟩
  · rw [hc] at HM
    simp only [if_true]
    have HO : Hid (GsOK ⟨c, [], []⟩) := GsOK.new hc
    clear hc
    go_enter Tryz.func11, Tryz.ntmps11
    go_wp2_with fail
    refine (HM.out _).mono ?_
    rintro e w1 ⟨rfl, hb1⟩
    obtain ⟨cp, bu, n0, n1, n2, n3⟩ := c
    simp only [] at hb1
    obtain ⟨a0, a1, a2, a3, a4, a5, az⟩ := cells_six hb1
    go_wp2_with fail
    go_ret2
    have hb := below_first hb1
    have hz := hb.size
    refine ⟨⟨w1.heap.size, fun b => b = w1.heap.size, rfl, ⟨⟨.slice none 0 0, .slice none 0 0, heap_alloc_new w1 _, World.ownsRow_nil _ _ _ _, World.ownsRow_nil _ _ _ _, by simp [Value.ownBlock], by simp [Value.ownBlock], by simp [Value.ownBlock]⟩, rfl, HO.out, List.Pairwise.nil, by simp, fun b hb => by subst hb; simp⟩, fun b hb => by omega⟩, hb.alloc hz _⟩
end Go.Proofs.YtgkiknfpcbcnnaaGreat
