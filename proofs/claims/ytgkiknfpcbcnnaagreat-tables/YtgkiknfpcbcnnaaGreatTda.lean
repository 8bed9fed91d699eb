import Derived.Test.YtgkiknfpcbcnnaaGreatBta
import Derived.Test.YtgkiknfpcbcnnaaGreatGai
import Derived.Test.YtgkiknfpcbcnnaaGreatGs
namespace Go.Proofs.YtgkiknfpcbcnnaaGreat
open Go.RowKit
set_option maxRecDepth 20000
theorem tdiv_bd {u : Int} (h : i64 u) : i64 (u.tdiv 2) := by
  unfold i64 at *
  rw [Int.tdiv_eq_ediv]
  split
  · omega
  · rw [show Int.sign 2 = 1 from rfl]; omega
def uZ (v : Int) : Nat → Int
  | 0 => v
  | n + 1 => (uZ v n).tdiv 2
def dgZ (u : Int) : ByteArray := if u.tmod 2 == 1 then ⟨#[49]⟩ else ⟨#[48]⟩
def binS (v : Int) : Nat → ByteArray
  | 0 => ⟨#[]⟩
  | n + 1 => dgZ (uZ v n) ++ binS v n
theorem dgZ_size (x : Int) : (dgZ x).size = 1 := by unfold dgZ; split <;> rfl
theorem binS_size (v : Int) : ∀ n, (binS v n).size = n := by
  intro n
  induction n with
  | zero => rfl
  | succ n ih => simp only [binS, ByteArray.size_append, dgZ_size, ih]; omega
theorem uZ_nat (v : Nat) : ∀ n, uZ (v : Int) n = ((v / 2 ^ n : Nat) : Int) := by
  intro n
  induction n with
  | zero => simp [uZ]
  | succ n ih =>
    simp only [uZ]
    rw [ih, Nat.pow_succ, ← Nat.div_div_eq_div_mul]
    rfl
theorem dgZ_nat (x : Nat) : dgZ (x : Int) = dg x := by
  unfold dgZ dg
  have e : ((x : Int).tmod 2 == 1) = decide (x % 2 = 1) := by
    have : (x : Int).tmod 2 = ((x % 2 : Nat) : Int) := rfl
    rw [this, Bool.eq_iff_iff]
    simp only [beq_iff_eq, decide_eq_true_eq]
    omega
  rw [e]
  by_cases h : x % 2 = 1 <;> simp [h]
theorem binS_nat (v : Nat) : ∀ n, binS (v : Int) n = bin v n := by
  intro n
  induction n with
  | zero => rfl
  | succ n ih => simp only [binS, bin]; rw [ih, uZ_nat, dgZ_nat]
set_option maxHeartbeats 800000 in
/-- The bits of whatever number. -/
theorem binary_all (v : Int) (n : Nat) (w : World) (hv : i64 v) (hn : n ≤ 16) :
    Calls Tryz.prog 78 #[.int .i64 v, .int .i64 n] w fun e w' => e = .returned (.string (binS v n)) ∧ w = w' := by
  go_enter Tryz.func78, Tryz.ntmps78
  go_wp2
  go_loop [0, 5, 6] (fun x s i => ∃ (j : Nat) (u : Int) (t : ByteArray), j ≤ n ∧ x = .int .i64 u ∧ i64 u ∧ s = .string t ∧ t.size = j ∧ i = .int .i64 j ∧ Hid (u = uZ v j) ∧ Hid (t = binS v j)) (fun _ _ i => n - (intOf i).toNat)
  case atStart => exact ⟨0, v, ⟨#[]⟩, Nat.zero_le _, rfl, hv, rfl, rfl, rfl, rfl, rfl⟩
  case round =>
    obtain ⟨j, u, t, hj, rfl, hu, rfl, hs, rfl, H1, H2⟩ := hrel
    have hu2 := tdiv_bd hu
    have H3 : Hid (u.tdiv 2 = uZ v (j + 1)) := by show _ = _; simp only [uZ]; rw [← H1.out]
    have H4 : Hid (binS v (j + 1) = dgZ u ++ t) := by show _ = _; simp only [binS]; rw [← H1.out, ← H2.out]
    unfold i64 at hu hu2
    by_cases hlt : j < n
    · cases hd2 : (u.tmod 2 == 1)
      · have HN : Hid ((⟨#[48]⟩ : ByteArray) ++ t = binS v (j + 1)) := by show _ = _; rw [H4.out]; unfold dgZ; rw [hd2]; rfl
        clear H4 H1 H2
        go_wp2
        go_round
        case rel => exact ⟨j + 1, _, _, by omega, rfl, hu2, rfl, by rw [ByteArray.size_append, hs]; show 1 + j = j + 1; omega, by go_num, H3, HN⟩
        case measure => simp [intOf]; omega
      · have HN : Hid ((⟨#[49]⟩ : ByteArray) ++ t = binS v (j + 1)) := by show _ = _; rw [H4.out]; unfold dgZ; rw [hd2]; rfl
        clear H4 H1 H2
        go_wp2
        go_round
        case rel => exact ⟨j + 1, _, _, by omega, rfl, hu2, rfl, by rw [ByteArray.size_append, hs]; show 1 + j = j + 1; omega, by go_num, H3, HN⟩
        case measure => simp [intOf]; omega
    · have : j = n := by omega
      subst this
      have HN : Hid (t = binS v j) := H2
      clear H1 H2 H3 H4
      go_wp2
      go_ret
      refine ⟨?_, rfl⟩
      rw [← HN.out]
      rfl
theorem binary_w (v : Int) (i : Int) (hv : i64 v) (h0 : 0 ≤ i) (h1 : i ≤ 16) (w : World) (q : Nat) : Calls Tryz.prog 78 #[.int .i64 v, .int .i64 i] (w.drewN q) fun e w' => e = .returned (.string (binS v i.toNat)) ∧ ∃ k, w' = w.drewN k := by
  obtain ⟨n, rfl⟩ := Int.eq_ofNat_of_zero_le h0
  exact Calls.quiet_of_same ((binary_all v n _ hv (by omega)).mono fun _ _ h' => ⟨h'.1, h'.2.symm⟩)
def hbZ (h : Hd) : ByteArray := binS h.ds 16 ++ binS h.sr 16 ++ binS h.pr 8 ++ binS h.po 16 ++ binS h.fl 8 ++ (if h.la then ⟨#[49]⟩ else ⟨#[48]⟩)
theorem hbZ_size (h : Hd) : (hbZ h).size = 65 := by
  unfold hbZ
  simp only [ByteArray.size_append, binS_size]
  cases h.la <;> rfl
structure Hd64 (h : Hd) : Prop where
  a : i64 h.ds
  b : i64 h.sr
  c : i64 h.pr
  d : i64 h.po
  e : i64 h.fl
theorem hbZ_ok {h : Hd} (hh : hdOK h = true) : bl (hbZ h) = hbL h := by
  unfold hdOK isN at hh
  simp only [Bool.and_eq_true, decide_eq_true_eq] at hh
  obtain ⟨ds, sr, pr, po, fl, la⟩ := h
  simp only [] at hh
  obtain ⟨n1, rfl⟩ := Int.eq_ofNat_of_zero_le (show 0 ≤ ds by omega)
  obtain ⟨n2, rfl⟩ := Int.eq_ofNat_of_zero_le (show 0 ≤ sr by omega)
  obtain ⟨n3, rfl⟩ := Int.eq_ofNat_of_zero_le (show 0 ≤ pr by omega)
  obtain ⟨n4, rfl⟩ := Int.eq_ofNat_of_zero_le (show 0 ≤ po by omega)
  obtain ⟨n5, rfl⟩ := Int.eq_ofNat_of_zero_le (show 0 ≤ fl by omega)
  rw [← bl_hbB]
  unfold hbZ hbB
  simp only [binS_nat]
set_option maxHeartbeats 800000 in
theorem headerBits_any (h : Hd) (w : World) (hh : Hd64 h) :
    Calls Tryz.prog 83 #[.agg #[.int .i64 h.ds, .int .i64 h.sr, .int .i64 h.pr, .int .i64 h.po, .int .i64 h.fl, .bool h.la]] w fun e w' => e = .returned (.string (hbZ h)) ∧ Below w.heap.size w w' := by
  obtain ⟨h1, h2, h3, h4, h5⟩ := hh
  obtain ⟨ds, sr, pr, po, fl, la⟩ := h
  simp only [] at h1 h2 h3 h4 h5 ⊢
  have s1 := binS_size ds 16
  have s2 := binS_size sr 16
  have s3 := binS_size pr 8
  have s4 := binS_size po 16
  have s5 := binS_size fl 8
  cases la
  all_goals
    go_enter Tryz.func83, Tryz.ntmps83
    go_wp2_with fail
    go_quiet ((go_at_call 78; exact binary_w _ _ (by assumption) (by decide) (by decide) _ _))
    go_wp2_with fail
    go_ret
    exact ⟨rfl, below_drewN (below_alloc _ _) _⟩
set_option maxHeartbeats 800000 in
theorem refFits_eq (c b : ByteArray) (w : World) (hs : c.size = b.size) (hb : b.size ≤ 1000) :
    Calls Tryz.prog 84 #[.string c, .string b] w fun e w' => e = .returned (.bool (fitL (bl c) (bl b))) ∧ ∃ n, w' = w.drewN n := by
  go_enter Tryz.func84, Tryz.ntmps84
  have hse : ((c.size : Int) == (b.size : Int)) = true := by rw [hs]; simp
  have HS : Hid (c.size = b.size) := hs
  go_wp2
  go_loopw [5] (fun x wr => ∃ j n : Nat, x = .int .i64 j ∧ j ≤ b.size ∧ wr = w.drewN n ∧ Hid (fitL (bl c) (bl b) = fitL ((bl c).drop j) ((bl b).drop j))) (fun x _ => b.size - (intOf x).toNat)
  case atStart => exact ⟨0, 0, rfl, Nat.zero_le _, rfl, rfl⟩
  case round =>
    obtain ⟨j, n, rfl, hj, rfl, H⟩ := hrel
    by_cases h2 : j < b.size
    · have h1 : j < c.size := by omega
      have i1 : (j : Int) < (c.size : Int) := by omega
      have i2 : (j : Int) < (b.size : Int) := by omega
      have hd : fitL ((bl c).drop j) ((bl b).drop j) = ((c[j] == 42 || c[j] == b[j]) && fitL ((bl c).drop (j + 1)) ((bl b).drop (j + 1))) := by
        rw [bl_get c j h1, bl_get b j h2]; rfl
      rw [hd] at H
      clear hd
      by_cases e42 : c[j] = 42
      · have HN : Hid (fitL (bl c) (bl b) = fitL ((bl c).drop (j + 1)) ((bl b).drop (j + 1))) := by show _ = _; rw [H.out, e42]; simp
        have q1 : ((c[j].toNat : Int) == 42) = true := by rw [e42]; rfl
        have q1' : ((c[j].toNat : Int) != 42) = false := by rw [bne, q1]; rfl
        clear H e42 hs
        go_wp2_with fail
        go_quiet (fail)
        go_wp2
        go_roundw
        case rel => exact ⟨j + 1, _, by go_num, by omega, rfl, HN⟩
        case measure => simp [intOf]; omega
      · have q1 : ((c[j].toNat : Int) == 42) = false := beq_eq_false_iff_ne.2 fun hh => e42 (UInt8.toNat_inj.1 (by show c[j].toNat = 42; omega))
        have q1' : ((c[j].toNat : Int) != 42) = true := by rw [bne, q1]; rfl
        by_cases eb : c[j] = b[j]
        · have HN : Hid (fitL (bl c) (bl b) = fitL ((bl c).drop (j + 1)) ((bl b).drop (j + 1))) := by show _ = _; rw [H.out, eb]; simp
          have q2 : ((c[j].toNat : Int) == (b[j].toNat : Int)) = true := by rw [eb]; simp
          have q2' : ((c[j].toNat : Int) != (b[j].toNat : Int)) = false := by rw [bne, q2]; rfl
          clear H e42 hs eb
          go_wp2_with fail
          go_quiet (fail)
          go_wp2
          go_roundw
          case rel => exact ⟨j + 1, _, by go_num, by omega, rfl, HN⟩
          case measure => simp [intOf]; omega
        · have HN : Hid (fitL (bl c) (bl b) = false) := by
            show _ = _
            have z1 : (c[j] == 42) = false := beq_eq_false_iff_ne.2 e42
            have z2 : (c[j] == b[j]) = false := beq_eq_false_iff_ne.2 eb
            rw [H.out, z1, z2]; rfl
          have q2 : ((c[j].toNat : Int) == (b[j].toNat : Int)) = false := beq_eq_false_iff_ne.2 fun hh => eb (UInt8.toNat_inj.1 (by omega))
          have q2' : ((c[j].toNat : Int) != (b[j].toNat : Int)) = true := by rw [bne, q2]; rfl
          clear H e42 hs eb
          go_wp2_with fail
          go_quiet (fail)
          go_wp2
          go_ret
          exact ⟨by rw [HN.out]; rfl, _, by rw [World.drewN_drewN]⟩
    · have HN : Hid (fitL (bl c) (bl b) = true) := by
        show _ = _
        rw [H.out, List.drop_of_length_le (l := bl b) (by rw [bl_len]; omega), List.drop_of_length_le (l := bl c) (by rw [bl_len]; omega)]
        rfl
      clear H hs
      go_wp2
      go_ret
      exact ⟨by rw [HN.out]; rfl, _, rfl⟩
theorem refFits_any (c b : ByteArray) (w : World) (hb : b.size ≤ 1000) :
    Calls Tryz.prog 84 #[.string c, .string b] w fun e w' => e = .returned (.bool (fitZ c b)) ∧ ∃ n, w' = w.drewN n := by
  by_cases hs : c.size = b.size
  · have := refFits_eq c b w hs hb
    unfold fitZ
    rw [decide_eq_true hs, Bool.true_and]
    exact this
  · have hse : ((c.size : Int) != (b.size : Int)) = true := by simp; omega
    have HZ : Hid (fitZ c b = false) := by show _ = _; unfold fitZ; rw [decide_eq_false hs]; rfl
    obtain ⟨Z, hZ⟩ : ∃ Z, Z = fitZ c b := ⟨_, rfl⟩
    rw [← hZ] at HZ ⊢
    clear hZ hs
    go_enter Tryz.func84, Tryz.ntmps84
    go_wp2_with fail
    go_ret
    exact ⟨by rw [HZ.out]; rfl, 0, rfl⟩
set_option maxHeartbeats 800000 in
theorem refLooked_any (T : List En) (to : Option Addr) (tc : Nat) (h : Hd) (w : World) (hh : Hd64 h) (hin : EnIn w to T) (h256 : T.length ≤ 256) :
    Calls Tryz.prog 63 #[.slice to T.length tc, .agg #[.int .i64 h.ds, .int .i64 h.sr, .int .i64 h.pr, .int .i64 h.po, .int .i64 h.fl, .bool h.la]] w fun e w' => e = .returned (.int .i64 (firB T (hbZ h))) ∧ Below w.heap.size w w' := by
  have HI0 : Hid (EnIn w to T) := hin
  obtain ⟨b, hbz⟩ : ∃ b, b = hbZ h := ⟨_, rfl⟩
  have hb : b.size ≤ 1000 := by rw [hbz, hbZ_size]; decide
  have HF : Hid (∀ c w, Calls Tryz.prog 84 #[.string c, .string b] w fun e w' => e = .returned (.bool (fitZ c b)) ∧ ∃ n, w' = w.drewN n) := fun c w => refFits_any c b w hb
  have HH : Hid (∀ w, Calls Tryz.prog 83 #[.agg #[.int .i64 h.ds, .int .i64 h.sr, .int .i64 h.pr, .int .i64 h.po, .int .i64 h.fl, .bool h.la]] w fun e w' => e = .returned (.string b) ∧ Below w.heap.size w w') := fun w => by rw [hbz]; exact headerBits_any h w hh
  rw [← hbz]
  obtain ⟨R, hR⟩ : ∃ R, R = firB T b := ⟨_, rfl⟩
  have HR : Hid (R = ((T.find? fun e => fitZ e.bt b).map En.ac).getD 0) := hR
  rw [← hR]
  clear hR hin hb hbz hh
  obtain ⟨ds, sr, pr, po, fl, la⟩ := h
  simp only [] at HH ⊢
  go_enter Tryz.func63, Tryz.ntmps63
  go_wp2_with fail
  refine (HH.out _).mono ?_
  rintro e V ⟨rfl, hbV⟩
  have hwV : Below w.heap.size w V := (below_alloc w _).trans (hbV.mono (by simp))
  have HI : Hid (EnIn V to T) := HI0.out.below hwV
  clear HI0 HH hbV
  go_wp2_with fail
  go_loopw [6] (fun x wr => ∃ i nd : Nat, x = .int .i64 i ∧ i ≤ T.length ∧ Hid (R = (((T.drop i).find? fun e => fitZ e.bt b).map En.ac).getD 0) ∧ wr = V.drewN nd) (fun x _ => T.length - (intOf x).toNat)
  case atStart => exact ⟨0, 0, rfl, Nat.zero_le _, HR, rfl⟩
  case round =>
    clear HR
    obtain ⟨i, nd, rfl, hil, H, rfl⟩ := hrel
    by_cases hlt : i < T.length
    · obtain ⟨g, rfl, hgz, c0, c1, _⟩ := HI.out i hlt
      have hno : fitZ T[i].bt b = false → Hid (R = (((T.drop (i + 1)).find? fun e => fitZ e.bt b).map En.ac).getD 0) := fun hf => by
        show _ = _
        rw [H.out, find_drop_no hlt hf]
      have hyes : fitZ T[i].bt b = true → Hid (R = T[i].ac) := fun hf => by
        show _ = _
        rw [H.out, find_drop_yes hlt hf]
        rfl
      have HFC : Hid (∀ w, Calls Tryz.prog 84 #[.string T[i].bt, .string b] w fun e w' => e = .returned (.bool (fitZ T[i].bt b)) ∧ ∃ n, w' = w.drewN n) := HF.out T[i].bt
      generalize T[i] = r at *
      obtain ⟨rbt, rac, rtx⟩ := r
      simp only [] at c0 c1 hno hyes HFC
      cases hf : fitZ rbt b
      · have HN := hno hf
        rw [hf] at HFC
        clear hno hyes hf H
        go_wp2_with (go_at_call 84; refine (HFC.out _).mono ?_; rintro e w1 ⟨rfl, n1, hw1⟩; rw [World.drewN_drewN] at hw1; subst hw1)
        go_roundw
        case rel => exact ⟨i + 1, _, by go_num, by omega, HN, rfl⟩
        case measure => simp [intOf]; omega
      · have HN := hyes hf
        rw [hf] at HFC
        clear hno hyes hf H
        go_wp2_with (go_at_call 84; refine (HFC.out _).mono ?_; rintro e w1 ⟨rfl, n1, hw1⟩; rw [World.drewN_drewN] at hw1; subst hw1)
        go_ret
        exact ⟨by rw [HN.out]; rfl, below_drewN hwV _⟩
    · obtain rfl : R = 0 := by rw [H.out, List.drop_of_length_le (by omega)]; rfl
      clear H
      go_wp2_with fail
      go_ret
      exact ⟨rfl, below_drewN hwV _⟩
end Go.Proofs.YtgkiknfpcbcnnaaGreat
namespace Go.Proofs.YtgkiknfpcbcnnaaGreat
open Go.RowKit
set_option maxRecDepth 20000
set_option maxHeartbeats 1600000 in
theorem refLacking_any (A B : List En) (ao bo : Option Addr) (ac bc : Nat) (w : World) (ha : EnIn w ao A) (hb : EnIn w bo B) (h1 : A.length ≤ 256) (h2 : B.length ≤ 256) :
    Calls Tryz.prog 71 #[.slice ao A.length ac, .slice bo B.length bc] w fun e w' => e = .returned (.int .i64 (lacks A B : Nat)) ∧ ∃ n, w' = w.drewN n := by
  have HA : Hid (EnIn w ao A) := ha
  have HB : Hid (EnIn w bo B) := hb
  obtain ⟨R, hR⟩ : ∃ R, R = lacks A B := ⟨_, rfl⟩
  have HR : Hid (R = lacks A B) := hR
  rw [← hR]
  clear ha hb hR
  go_enter Tryz.func71, Tryz.ntmps71
  go_wp2_with fail
  go_loopw [5, 6] (fun a x wr => ∃ i n nd : Nat, x = .int .i64 i ∧ a = .int .i64 n ∧ i ≤ A.length ∧ n ≤ i ∧ Hid (n = lacks (A.take i) B) ∧ wr = w.drewN nd) (fun _ x _ => A.length - (intOf x).toNat)
  case atStart => exact ⟨0, 0, 0, rfl, rfl, Nat.zero_le _, Nat.le_refl _, rfl, rfl⟩
  case round =>
    obtain ⟨i, n, nd, rfl, rfl, hil, hni, H, rfl⟩ := hrel
    by_cases hlt : i < A.length
    · obtain ⟨g, rfl, hgz, c0, c1, c2⟩ := HA.out i hlt
      have HLT : Hid (lacks (A.take (i + 1)) B = lacks (A.take i) B + (if inT B A[i] then 0 else 1)) := lacks_take A B i hlt
      generalize A[i] = r at *
      go_wp2_with fail
      go_loopw [7, 8] (fun v x wr => ∃ (k nd : Nat) (inb : Bool), x = .int .i64 k ∧ v = .bool inb ∧ k ≤ B.length ∧ Hid (inb = inT (B.take k) r) ∧ wr = w.drewN nd) (fun _ x _ => B.length - (intOf x).toNat)
      case atStart => exact ⟨0, nd, false, rfl, rfl, Nat.zero_le _, rfl, rfl⟩
      case round =>
        obtain ⟨k, nd', inb, rfl, rfl, hkl, HI, rfl⟩ := hrel
        by_cases hlt' : k < B.length
        · obtain ⟨g', rfl, hgz', d0, d1, d2⟩ := HB.out k hlt'
          have HT : Hid (inT (B.take (k + 1)) r = (inb || enEq r B[k])) := by show _ = _; rw [inT_take B r k hlt', ← HI.out]
          generalize B[k] = z at *
          obtain ⟨rbt, rac, rtx⟩ := r
          obtain ⟨zbt, zac, ztx⟩ := z
          simp only [] at c0 c1 c2 d0 d1 d2
          cases inb
          · by_cases e1 : rbt = zbt ∧ rac = zac ∧ rtx = ztx
            · obtain ⟨rfl, rfl, rfl⟩ := e1
              have HN : Hid (true = inT (B.take (k + 1)) ⟨rbt, rac, rtx⟩) := by show _ = _; rw [HT.out, enEq_self]; rfl
              clear HI HT
              go_wp2_with fail
              go_quiet (fail)
              go_wp2_with fail
              go_roundw
              case rel => exact ⟨k + 1, _, true, by go_num, by simp, by omega, HN, rfl⟩
              case measure => simp [intOf]; omega
            · have HN : Hid (false = inT (B.take (k + 1)) ⟨rbt, rac, rtx⟩) := by
                show _ = _
                rw [HT.out, Bool.false_or]
                cases hh : enEq ⟨rbt, rac, rtx⟩ ⟨zbt, zac, ztx⟩
                · rfl
                · have := (enEq_iff _ _).1 hh
                  simp only [En.mk.injEq] at this
                  exact absurd this e1
              have q : (rbt.toList == zbt.toList) = false ∨ (rac == zac) = false ∨ (rtx.toList == ztx.toList) = false := by
                by_cases x : rbt = zbt
                · by_cases y : rac = zac
                  · exact .inr (.inr (text_ne fun z => e1 ⟨x, y, z⟩))
                  · exact .inr (.inl (by simpa using y))
                · exact .inl (text_ne x)
              clear HI HT e1
              rcases q with q | q | q
              all_goals
                go_wp2_with fail
                go_quiet (fail)
                go_wp2_with fail
                go_roundw
                case rel => exact ⟨k + 1, _, false, by go_num, by first | rfl | (simp; done) | (rw [q]; simp), by omega, HN, rfl⟩
                case measure => simp [intOf]; omega
          · have HN : Hid (true = inT (B.take (k + 1)) ⟨rbt, rac, rtx⟩) := by show _ = _; rw [HT.out]; rfl
            clear HI HT
            go_wp2_with fail
            go_quiet (fail)
            go_wp2_with fail
            go_roundw
            case rel => exact ⟨k + 1, _, true, by go_num, by simp, by omega, HN, rfl⟩
            case measure => simp [intOf]; omega
        · have hh : inb = inT B r := by have := HI.out; rw [List.take_of_length_le (by omega)] at this; exact this
          cases inb
          · have HN : Hid (n + 1 = lacks (A.take (i + 1)) B) := by
              show _ = _
              rw [HLT.out, ← H.out, ← hh]
              rfl
            clear HI H HLT hh
            go_wp2_with fail
            go_roundw
            case rel => exact ⟨i + 1, n + 1, nd', by go_num, by go_num, by omega, by omega, HN, rfl⟩
            case measure => simp [intOf]; omega
          · have HN : Hid (n = lacks (A.take (i + 1)) B) := by
              show _ = _
              rw [HLT.out, ← H.out, ← hh]
              rfl
            clear HI H HLT hh
            go_wp2_with fail
            go_roundw
            case rel => exact ⟨i + 1, n, nd', by go_num, rfl, by omega, by omega, HN, rfl⟩
            case measure => simp [intOf]; omega
    · obtain rfl : n = R := by rw [HR.out, H.out, List.take_of_length_le (by omega)]
      clear H HR
      go_wp2_with fail
      go_ret
      exact ⟨rfl, nd, rfl⟩
end Go.Proofs.YtgkiknfpcbcnnaaGreat
