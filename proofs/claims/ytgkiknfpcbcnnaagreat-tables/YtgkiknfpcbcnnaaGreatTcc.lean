import Derived.Test.YtgkiknfpcbcnnaaGreatTcb
import Derived.Test.YtgkiknfpcbcnnaaGreatGai
import Derived.Test.YtgkiknfpcbcnnaaGreatGs
import Derived.Test.YtgkiknfpcbcnnaaGreatLbe
namespace Go.Proofs.YtgkiknfpcbcnnaaGreat
open Go.RowKit
set_option maxRecDepth 20000
set_option maxHeartbeats 800000 in
theorem packFits_any (c b : ByteArray) (w : World) (hs : c.size = b.size) (hb : b.size ≤ 1000) :
    Calls Tryz.prog 82 #[.string c, .string b] w fun e w' => e = .returned (.bool (fitL (bl c) (bl b))) ∧ ∃ n, w' = w.drewN n := by
  go_enter Tryz.func82, Tryz.ntmps82
  have hse : ((c.size : Int) == (b.size : Int)) = true := by rw [hs]; simp
  have HS : Hid (c.size = b.size) := hs
  go_wp2
  go_loopw [5] (fun x wr => ∃ j n : Nat, x = .int .i64 j ∧ j ≤ c.size ∧ wr = w.drewN n ∧ Hid (fitL (bl c) (bl b) = fitL ((bl c).drop j) ((bl b).drop j))) (fun x _ => c.size - (intOf x).toNat)
  case atStart => exact ⟨0, 0, rfl, Nat.zero_le _, rfl, rfl⟩
  case round =>
    obtain ⟨j, n, rfl, hj, rfl, H⟩ := hrel
    by_cases h1 : j < c.size
    · have h2 : j < b.size := by omega
      have i1 : (j : Int) < (c.size : Int) := by omega
      have i2 : (j : Int) < (b.size : Int) := by omega
      have hd : fitL ((bl c).drop j) ((bl b).drop j) = ((c[j] == 42 || c[j] == b[j]) && fitL ((bl c).drop (j + 1)) ((bl b).drop (j + 1))) := by
        rw [bl_get c j h1, bl_get b j h2]; rfl
      rw [hd] at H
      clear hd
      by_cases e42 : c[j] = 42
      · have HN : Hid (fitL (bl c) (bl b) = fitL ((bl c).drop (j + 1)) ((bl b).drop (j + 1))) := by show _ = _; rw [H.out, e42]; simp
        have q1 : ((c[j].toNat : Int) == 42) = true := by rw [e42]; rfl
        have q1' : ((c[j].toNat : Int) != 42) = false := by rw [bne, q1]; rfl
        clear H e42 hs
        go_wp2_with fail
        go_quiet (fail)
        go_wp2
        go_roundw
        case rel => exact ⟨j + 1, _, by go_num, by omega, rfl, HN⟩
        case measure => simp [intOf]; omega
      · have q1 : ((c[j].toNat : Int) == 42) = false := beq_eq_false_iff_ne.2 fun hh => e42 (UInt8.toNat_inj.1 (by show c[j].toNat = 42; omega))
        have q1' : ((c[j].toNat : Int) != 42) = true := by rw [bne, q1]; rfl
        by_cases eb : c[j] = b[j]
        · have HN : Hid (fitL (bl c) (bl b) = fitL ((bl c).drop (j + 1)) ((bl b).drop (j + 1))) := by show _ = _; rw [H.out, eb]; simp
          have q2 : ((c[j].toNat : Int) == (b[j].toNat : Int)) = true := by rw [eb]; simp
          have q2' : ((c[j].toNat : Int) != (b[j].toNat : Int)) = false := by rw [bne, q2]; rfl
          clear H e42 hs eb
          go_wp2_with fail
          go_quiet (fail)
          go_wp2
          go_roundw
          case rel => exact ⟨j + 1, _, by go_num, by omega, rfl, HN⟩
          case measure => simp [intOf]; omega
        · have HN : Hid (fitL (bl c) (bl b) = false) := by
            show _ = _
            have z1 : (c[j] == 42) = false := beq_eq_false_iff_ne.2 e42
            have z2 : (c[j] == b[j]) = false := beq_eq_false_iff_ne.2 eb
            rw [H.out, z1, z2]; rfl
          have q2 : ((c[j].toNat : Int) == (b[j].toNat : Int)) = false := beq_eq_false_iff_ne.2 fun hh => eb (UInt8.toNat_inj.1 (by omega))
          have q2' : ((c[j].toNat : Int) != (b[j].toNat : Int)) = true := by rw [bne, q2]; rfl
          clear H e42 hs eb
          go_wp2_with fail
          go_quiet (fail)
          go_wp2
          go_ret
          exact ⟨by rw [HN.out]; rfl, _, by rw [World.drewN_drewN]⟩
    · have HN : Hid (fitL (bl c) (bl b) = true) := by
        show _ = _
        rw [H.out, List.drop_of_length_le (l := bl b) (by rw [bl_len]; omega), List.drop_of_length_le (l := bl c) (by rw [bl_len]; omega)]
        rfl
      clear H hs
      go_wp2
      go_ret
      exact ⟨by rw [HN.out]; rfl, _, rfl⟩
set_option maxHeartbeats 1000000 in
theorem writeBits_any (a W : Nat) (m : Int) (w : World) (ha : a ≤ 65535) (hW1 : 1 ≤ W) (hW : W ≤ 16) (hm : m + 1 = ((2 ^ W : Nat) : Int)) :
    Calls Tryz.prog 102 #[.int .i64 (a : Int), .int .i64 m] w fun e w' => (∃ B : ByteArray, e = .returned (.string B) ∧ bl B = binL a W) ∧ w = w' := by
  have hp := pow_bd W hW
  have H0 : Hid (((2 ^ W : Nat) : Int) / 2 = ((2 ^ W / 2 : Nat) : Int)) := by show _ = _; omega
  have hm2 : m = ((2 ^ W : Nat) : Int) - 1 := by omega
  clear hm
  generalize hZ : 2 ^ W = Z at *
  subst hm2
  go_enter Tryz.func102, Tryz.ntmps102
  go_wp2_with fail
  go_loop [5, 6] (fun s x => ∃ (j : Nat) (B : ByteArray), s = .string B ∧ x = .int .i64 ((2 ^ j / 2 : Nat) : Int) ∧ B.size + j = W ∧ Hid (bl B ++ binL a j = binL a W)) (fun _ x => (intOf x).toNat)
  case atStart => exact ⟨W, ⟨#[]⟩, rfl, by rw [hZ, ← H0.out], Nat.zero_add W, rfl⟩
  case round =>
    obtain ⟨j, B, rfl, rfl, hj, H⟩ := hrel
    clear H0
    cases j with
    | zero =>
      have e0 : (2 ^ 0 / 2 : Nat) = 0 := rfl
      rw [e0]
      have HB : Hid (bl B = binL a W) := by show _ = _; have := H.out; simp only [binL, List.append_nil] at this; exact this
      clear H e0
      go_wp2_with fail
      go_ret
      exact ⟨⟨B, rfl, HB.out⟩, rfl⟩
    | succ i =>
      have e : 2 ^ (i + 1) / 2 = 2 ^ i := by rw [Nat.pow_succ]; omega
      rw [e]
      have hb := bit_ne a i ha (by omega)
      have HB : Hid ((bits BinOp.and IntKind.i64 (a : Int) ((2 ^ i : Nat) : Int) != 0) = decide (a / 2 ^ i % 2 = 1)) := hb
      have hq := pow_bd i (by omega)
      have hT : binL a (i + 1) = dgL (a / 2 ^ i) :: binL a i := rfl
      rw [hT] at H
      obtain ⟨r, hr⟩ : ∃ r, r = 2 ^ i / 2 := ⟨_, rfl⟩
      have hh : ((2 ^ i : Nat) : Int) / 2 = (r : Int) := by omega
      have hlt : r < 2 ^ i := by omega
      have HR : Hid (2 ^ i / 2 = r) := hr.symm
      clear hr
      have hbz : B.size + 1 ≤ 9223372036854775807 := by omega
      clear hb hT e
      by_cases hd : a / 2 ^ i % 2 = 1
      · have hdg : dgL (a / 2 ^ i) = 49 := by unfold dgL; rw [if_pos hd]
        rw [hdg] at H
        have HN : Hid (bl (B ++ ⟨#[49]⟩) ++ binL a i = binL a W) := by show _ = _; rw [bl_app, List.append_assoc]; exact H.out
        have sz : (B ++ (⟨#[49]⟩ : ByteArray)).size = B.size + 1 := by rw [ByteArray.size_append]; rfl
        have hbt : (bits BinOp.and IntKind.i64 (a : Int) ((2 ^ i : Nat) : Int) != 0) = true := by rw [HB.out]; simpa using hd
        clear H HB hdg hd
        generalize 2 ^ i = q at hh hlt hq hbt ⊢
        go_wp2_with fail
        go_round
        case rel => exact ⟨i, _, rfl, by rw [HR.out], by rw [sz]; omega, HN⟩
        case measure => simp [intOf]; omega
      · have hdg : dgL (a / 2 ^ i) = 48 := by unfold dgL; rw [if_neg hd]
        rw [hdg] at H
        have HN : Hid (bl (B ++ ⟨#[48]⟩) ++ binL a i = binL a W) := by show _ = _; rw [bl_app, List.append_assoc]; exact H.out
        have sz : (B ++ (⟨#[48]⟩ : ByteArray)).size = B.size + 1 := by rw [ByteArray.size_append]; rfl
        have hbt : (bits BinOp.and IntKind.i64 (a : Int) ((2 ^ i : Nat) : Int) != 0) = false := by rw [HB.out]; simpa using hd
        clear H HB hdg hd
        generalize 2 ^ i = q at hh hlt hq hbt ⊢
        go_wp2_with fail
        go_round
        case rel => exact ⟨i, _, rfl, by rw [HR.out], by rw [sz]; omega, HN⟩
        case measure => simp [intOf]; omega
def hbP (h : Hd) : Nat → List UInt8
  | 0 => []
  | n + 1 => hbP h n ++ binL (fldV h ((n : Int) + 1)).toNat (wOf ((n : Int) + 1))
theorem hbP_all (h : Hd) : hbP h 5 ++ [if h.la then 49 else 48] = hbL h := by
  simp [hbP, hbL, fldV, wOf]
theorem hbP_len (h : Hd) : ∀ n, n ≤ 5 → (hbP h n).length ≤ 16 * n := by
  intro n
  induction n with
  | zero => intro _; exact Nat.le_refl _
  | succ n ih =>
    intro hn
    have := ih (by omega)
    have hw := (wOf_bd ((n : Int) + 1)).2
    simp only [hbP, List.length_append, binL_len]
    omega
theorem fld_nat {h : Hd} (hh : hdOK h = true) (n : Nat) (hn : n < 5) : ∃ a : Nat, fldV h ((n : Int) + 1) = (a : Int) ∧ a ≤ 65535 := by
  unfold hdOK at hh
  simp only [Bool.and_eq_true] at hh
  obtain ⟨⟨⟨⟨h1, h2⟩, h3⟩, h4⟩, h5⟩ := hh
  have b1 := isN_bd h1
  have b2 := isN_bd h2
  have b3 := isN_bd h3
  have b4 := isN_bd h4
  have b5 := isN_bd h5
  have hc : n = 0 ∨ n = 1 ∨ n = 2 ∨ n = 3 ∨ n = 4 := by omega
  rcases hc with rfl | rfl | rfl | rfl | rfl
  · exact ⟨h.ds.toNat, by show h.ds = _; omega, by omega⟩
  · exact ⟨h.sr.toNat, by show h.sr = _; omega, by omega⟩
  · exact ⟨h.pr.toNat, by show h.pr = _; omega, by omega⟩
  · exact ⟨h.po.toNat, by show h.po = _; omega, by omega⟩
  · exact ⟨h.fl.toNat, by show h.fl = _; omega, by omega⟩
set_option maxHeartbeats 1000000 in
theorem packBits_any (h : Hd) (w : World) (hh : hdOK h = true) :
    Calls Tryz.prog 81 #[.agg #[.int .i64 h.ds, .int .i64 h.sr, .int .i64 h.pr, .int .i64 h.po, .int .i64 h.fl, .bool h.la]] w fun e w' => (∃ B : ByteArray, e = .returned (.string B) ∧ bl B = hbL h) ∧ Below w.heap.size w w' := by
  have HF : Hid (∀ n : Nat, n < 5 → ∃ a : Nat, fldV h ((n : Int) + 1) = (a : Int) ∧ a ≤ 65535) := fld_nat hh
  have HA : Hid (hbP h 5 ++ [if h.la then 49 else 48] = hbL h) := hbP_all h
  have HL : Hid (∀ n, n ≤ 5 → (hbP h n).length ≤ 16 * n) := hbP_len h
  have HC : Hid (∀ (k : Int) w, 1 ≤ k → k ≤ 5 → Calls Tryz.prog 100 #[.agg #[.int .i64 h.ds, .int .i64 h.sr, .int .i64 h.pr, .int .i64 h.po, .int .i64 h.fl, .bool h.la], .int .i64 k] w fun e w' => e = .returned (.tuple #[.int .i64 (fldV h k), .bool (fldB h k)]) ∧ Below w.heap.size w w') := fun k w => fieldOf_any h k w
  clear hh
  go_enter Tryz.func81, Tryz.ntmps81
  go_wp2_with fail
  go_loopw [3, 4] (fun s x wr => ∃ (n : Nat) (B : ByteArray), s = .string B ∧ x = .int .i64 ((n : Int) + 1) ∧ n ≤ 5 ∧ Hid (bl B = hbP h n) ∧ Below (w.alloc (.cells #[.int .i64 h.ds, .int .i64 h.sr, .int .i64 h.pr, .int .i64 h.po, .int .i64 h.fl, .bool h.la] 41)).heap.size (w.alloc (.cells #[.int .i64 h.ds, .int .i64 h.sr, .int .i64 h.pr, .int .i64 h.po, .int .i64 h.fl, .bool h.la] 41)) wr) (fun _ x _ => (6 - intOf x).toNat)
  case atStart => exact ⟨0, ⟨#[]⟩, rfl, rfl, by omega, rfl, Below.refl _ _⟩
  case round =>
    obtain ⟨n, B, rfl, rfl, hn, H, hbel⟩ := hrel
    obtain ⟨a0, a1, a2, a3, a4, a5, az⟩ := cells_six hbel
    have hb0 := below_first hbel
    have hz := hbel.size
    have hBs : B.size ≤ 80 := by
      have := HL.out n hn
      rw [← H.out, bl_len] at this
      omega
    by_cases hlt : n < 5
    · obtain ⟨a, ha, hab⟩ := HF.out n hlt
      have hmx := mxF_pow ((n : Int) + 1)
      have hwb := wOf_bd ((n : Int) + 1)
      have HP : Hid (hbP h (n + 1) = hbP h n ++ binL a (wOf ((n : Int) + 1))) := by
        show _ = _
        simp only [hbP]
        rw [ha, Int.toNat_natCast]
      have HFC : Hid (∀ w, Calls Tryz.prog 100 #[.agg #[.int .i64 h.ds, .int .i64 h.sr, .int .i64 h.pr, .int .i64 h.po, .int .i64 h.fl, .bool h.la], .int .i64 ((n : Int) + 1)] w fun e w' => e = .returned (.tuple #[.int .i64 (a : Int), .bool (fldB h ((n : Int) + 1))]) ∧ Below w.heap.size w w') := fun w => by
        have := HC.out ((n : Int) + 1) w (by omega) (by omega)
        rw [ha] at this
        exact this
      have HWB : Hid (∀ w, Calls Tryz.prog 102 #[.int .i64 (a : Int), .int .i64 (mxF ((n : Int) + 1))] w fun e w' => (∃ B : ByteArray, e = .returned (.string B) ∧ bl B = binL a (wOf ((n : Int) + 1))) ∧ w = w') := fun w => writeBits_any a (wOf ((n : Int) + 1)) _ w hab hwb.1 hwb.2 (by omega)
      clear ha hab hmx
      go_wp2_with (first
        | (go_at_call 100; refine (HFC.out _).mono ?_; rintro e w1 ⟨rfl, hb1⟩)
        | (go_at_call 101; refine (maxField_any _ _).mono ?_; rintro e w' ⟨rfl, rfl⟩)
        | (go_at_call 102; refine (HWB.out _).mono ?_; rintro e w' ⟨⟨B2, rfl, hB2⟩, rfl⟩; have hB2s : B2.size ≤ 16 := by (have h9 := congrArg List.length hB2; rw [bl_len, binL_len] at h9; omega)))
      go_roundw
      case rel => exact ⟨n + 1, _, rfl, by go_num, by omega, by show _ = _; rw [bl_app, H.out, hB2, HP.out], hbel.trans (hb1.mono hz)⟩
      case measure => simp [intOf]; omega
    · obtain rfl : n = 5 := by omega
      have HB : Hid (∀ u : UInt8, (if h.la then 49 else 48) = u → bl (B ++ ⟨#[u]⟩) = hbL h) := fun u hu => by
        rw [bl_app, H.out, ← HA.out, hu]
        rfl
      clear H HA HL HF HC
      cases hla : h.la
      · rw [hla] at a5 HB
        go_wp2_with fail
        go_ret
        exact ⟨⟨_, rfl, HB.out 48 rfl⟩, hb0⟩
      · rw [hla] at a5 HB
        go_wp2_with fail
        go_ret
        exact ⟨⟨_, rfl, HB.out 49 rfl⟩, hb0⟩
end Go.Proofs.YtgkiknfpcbcnnaaGreat
namespace Go.Proofs.YtgkiknfpcbcnnaaGreat
open Go.RowKit
set_option maxRecDepth 20000
theorem hbL_len (h : Hd) : (hbL h).length = 65 := by
  unfold hbL
  simp only [List.length_append, binL_len, List.length_singleton]
theorem cubS_w {ps : List Pt} (hp : ∀ p ∈ ps, isP p = true) : ∀ c ∈ cubS ps, c.length = 65 := by
  intro c hc
  unfold cubS at hc
  obtain ⟨a, ha, hc⟩ := List.mem_flatMap.1 hc
  obtain ⟨b, hb, hc⟩ := List.mem_flatMap.1 hc
  obtain ⟨d, hd, rfl⟩ := List.mem_map.1 hc
  have w3 := blkS_w 3 ps hp a ha
  have w4 := blkS_w 4 ps hp b hb
  have w5 := blkS_w 5 ps hp d hd
  obtain ⟨x1, e1⟩ := blkS_one 1 (.inl rfl) ps
  obtain ⟨x2, e2⟩ := blkS_one 2 (.inr rfl) ps
  have w1 := blkS_w 1 ps hp x1 (by rw [e1]; simp)
  have w2 := blkS_w 2 ps hp x2 (by rw [e2]; simp)
  have g1 : (blkS 1 ps).headD [] = x1 := by rw [e1]; rfl
  have g2 : (blkS 2 ps).headD [] = x2 := by rw [e2]; rfl
  rw [g1, g2]
  simp only [List.length_append, List.length_singleton, w1, w2, w3, w4, w5]
  rfl
theorem cbB_size {s b : ByteArray} (h : b ∈ cbB s) : b.size = 65 := by
  have hm : bl b ∈ cbL s := by rw [← cbB_bl]; exact List.mem_map_of_mem h
  unfold cbL at hm
  split at hm
  · have := cubS_w (mem_dS s) _ hm
    rw [bl_len] at this
    exact this
  · simp at hm
theorem tabL_size {l : List (Rl × Int)} {e : En} (h : e ∈ tabL l) : e.bt.size = 65 := by
  unfold tabL at h
  obtain ⟨x, _, hx⟩ := List.mem_flatMap.1 h
  unfold enOf at hx
  split at hx
  · obtain ⟨b, hb, rfl⟩ := List.mem_map.1 hx
    exact cbB_size hb
  · simp at hx
theorem find_drop_no {α : Type} {f : α → Bool} {l : List α} {i : Nat} (h : i < l.length) (hf : f l[i] = false) : (l.drop i).find? f = (l.drop (i + 1)).find? f := by
  rw [List.drop_eq_getElem_cons h, List.find?_cons, hf]
theorem find_drop_yes {α : Type} {f : α → Bool} {l : List α} {i : Nat} (h : i < l.length) (hf : f l[i] = true) : (l.drop i).find? f = some l[i] := by
  rw [List.drop_eq_getElem_cons h, List.find?_cons, hf]
set_option maxHeartbeats 1600000 in
theorem landLookup_any (g : Nat) (st : Gs) (F : Nat → Prop) (h : Hd) (w : World) (hg : LGate w g st F) :
    Calls Tryz.prog 61 #[.pointer (some ⟨g, 0, none⟩), .agg #[.int .i64 h.ds, .int .i64 h.sr, .int .i64 h.pr, .int .i64 h.po, .int .i64 h.fl, .bool h.la]] w fun e w' => e = .returned (.tuple #[.int .i64 (lkA (tabS st) h), .int .i64 (lkE h)]) ∧ Below w.heap.size w w' := by
  have HIH : Hid (∀ w, Calls Tryz.prog 80 #[.agg #[.int .i64 h.ds, .int .i64 h.sr, .int .i64 h.pr, .int .i64 h.po, .int .i64 h.fl, .bool h.la]] w fun e w' => e = .returned (.bool (hdOK h)) ∧ Below w.heap.size w w') := fun w => isHeader_any h w
  obtain ⟨R, hR⟩ : ∃ R, R = lkA (tabS st) h := ⟨_, rfl⟩
  obtain ⟨E, hE⟩ : ∃ E, E = lkE h := ⟨_, rfl⟩
  have HR : Hid (R = lkA (tabS st) h) := hR
  have HE : Hid (E = lkE h) := hE
  rw [← hR, ← hE]
  clear hR hE
  cases hh : hdOK h
  · obtain rfl : R = 0 := by rw [HR.out]; unfold lkA; rw [hh]; rfl
    obtain rfl : E = 3 := by rw [HE.out]; unfold lkE; rw [hh]; rfl
    rw [hh] at HIH
    clear hh HR HE hg
    go_enter Tryz.func61, Tryz.ntmps61
    go_wp2_with fail
    refine (HIH.out _).mono ?_
    rintro e w1 ⟨rfl, hb1⟩
    go_wp2_with fail
    go_ret2
    exact ⟨rfl, below_first hb1⟩
  · have HRF : Hid (R = (((tabS st).find? fun e => fitL (bl e.bt) (hbL h)).map En.ac).getD 0) := by
      show _ = _
      rw [HR.out]
      unfold lkA firA
      rw [hh]
      rfl
    obtain rfl : E = 0 := by rw [HE.out]; unfold lkE; rw [hh]; rfl
    have HBT : Hid (∀ w, Calls Tryz.prog 81 #[.agg #[.int .i64 h.ds, .int .i64 h.sr, .int .i64 h.pr, .int .i64 h.po, .int .i64 h.fl, .bool h.la]] w fun e w' => (∃ B : ByteArray, e = .returned (.string B) ∧ bl B = hbL h) ∧ Below w.heap.size w w') := fun w => packBits_any h w hh
    have HTB : Hid (∀ w', Below w.heap.size w w' → Calls Tryz.prog 38 #[.pointer (some ⟨g, 0, none⟩)] w' fun e w'' => (∃ v, e = .returned v ∧ ERow w'' w'.heap.size v (tabS st)) ∧ Below w'.heap.size w' w'') := fun w' hb => landTable_any g st F w' (hg.same hb.size (fun b hf => hb.block b (hg.lt b hf)))
    have HSZ : Hid (∀ e ∈ tabS st, e.bt.size = 65) := fun e he => tabL_size he
    have h128 : (tabS st).length ≤ 128 := tabS_len hg.ok
    rw [hh] at HIH
    have HHL : Hid ((hbL h).length = 65) := hbL_len h
    clear hh HR HE hg
    generalize tabS st = T at *
    generalize hbL h = bits at *
    go_enter Tryz.func61, Tryz.ntmps61
    go_wp2_with fail
    refine (HIH.out _).mono ?_
    rintro e w1 ⟨rfl, hb1⟩
    obtain ⟨a0, a1, a2, a3, a4, a5, az⟩ := cells_six hb1
    have hbw1 := below_first hb1
    clear hb1 HIH
    go_wp2_with fail
    refine (HBT.out _).mono ?_
    rintro e w2 ⟨⟨B, rfl, hB⟩, hb2⟩
    have hbw2 : Below w.heap.size w w2 := hbw1.trans (hb2.mono hbw1.size)
    have HB : Hid (bl B = bits) := hB
    have hBs : B.size ≤ 1000 := by have := HHL.out; rw [← hB, bl_len] at this; omega
    have HBs : Hid (B.size = 65) := by show _ = _; have := HHL.out; rw [← hB, bl_len] at this; exact this
    clear a0 a1 a2 a3 a4 a5 az hB hbw1 hb2 HBT HHL
    go_wp2_with fail
    refine (HTB.out _ hbw2).mono ?_
    rintro e w3 ⟨⟨v, rfl, hrow⟩, hb3⟩
    obtain ⟨to, tc, rfl⟩ := ownsRow_shape hrow
    have HT : Hid (EnIn w3 to T) := EnIn.of hrow
    have hbw3 : Below w.heap.size w w3 := hbw2.trans (hb3.mono hbw2.size)
    have hzw := hbw3.size
    clear hrow hb3 hbw2 HTB
    go_wp2_with fail
    go_loopw [17] (fun x wr => ∃ i : Nat, x = .int .i64 i ∧ i ≤ T.length ∧ Hid (R = (((T.drop i).find? fun e => fitL (bl e.bt) bits).map En.ac).getD 0) ∧ Below w3.heap.size w3 wr) (fun x _ => T.length - (intOf x).toNat)
    case atStart => exact ⟨0, rfl, Nat.zero_le _, by show _ = _; rw [HRF.out]; rfl, Below.refl _ _⟩
    case round =>
      clear HRF
      obtain ⟨i, rfl, hil, H, hbel⟩ := hrel
      have hz := hbel.size
      by_cases hlt : i < T.length
      · obtain ⟨rk, rfl, bz2, c0, c1, c2⟩ := HT.out.below hbel i hlt
        have HS : Hid (T[i].bt.size = 65) := HSZ.out T[i] (List.getElem_mem hlt)
        have hno : fitL (bl T[i].bt) bits = false → Hid (R = (((T.drop (i + 1)).find? fun e => fitL (bl e.bt) bits).map En.ac).getD 0) := fun hf => by
          show _ = _
          rw [H.out, find_drop_no hlt hf]
        have hyes : fitL (bl T[i].bt) bits = true → Hid (R = T[i].ac) := fun hf => by
          show _ = _
          rw [H.out, find_drop_yes hlt hf]
          rfl
        generalize T[i] = r at *
        obtain ⟨rbt, rac, rtx⟩ := r
        simp only [] at c0 c1 c2 HS hno hyes
        have HFT : Hid (∀ w, Calls Tryz.prog 82 #[.string rbt, .string B] w fun e w' => e = .returned (.bool (fitL (bl rbt) bits)) ∧ ∃ n, w' = w.drewN n) := fun w => by rw [← HB.out]; exact packFits_any rbt B w (by rw [HS.out, HBs.out]) hBs
        cases hf : fitL (bl rbt) bits
        · have HN := hno hf
          rw [hf] at HFT
          clear hno hyes hf H
          go_wp2_with fail
          refine (HFT.out _).mono ?_
          rintro e w4 ⟨rfl, nd, hw4⟩
          have hb4 : Below w3.heap.size w3 w4 := by rw [hw4]; exact below_drewN (hbel.alloc hz _) _
          clear hw4
          go_wp2_with fail
          go_roundw
          case rel => exact ⟨i + 1, by go_num, by omega, HN, hb4⟩
          case measure => simp [intOf]; omega
        · have HN := hyes hf
          rw [hf] at HFT
          clear hno hyes hf H
          go_wp2_with fail
          refine (HFT.out _).mono ?_
          rintro e w4 ⟨rfl, nd, hw4⟩
          have hb4 : Below wr.heap.size wr w4 := by rw [hw4]; exact below_drewN (below_alloc _ _) _
          have d1 : w4.cell? ⟨wr.heap.size, 1, none⟩ = some (.int .i64 rac) := by rw [hw4, World.cell?_drewN]; exact cell_of_row _ wr.heap.size 1 _ _ _ (heap_alloc_new wr _)
          clear hw4
          go_wp2_with fail
          go_ret2
          exact ⟨by rw [HN.out]; rfl, hbw3.trans ((hbel.trans (hb4.mono hz)).mono hzw)⟩
      · obtain rfl : R = 0 := by rw [H.out, List.drop_of_length_le (by omega)]; rfl
        clear H
        go_wp2_with fail
        go_ret2
        exact ⟨rfl, hbw3.trans (hbel.mono hzw)⟩
end Go.Proofs.YtgkiknfpcbcnnaaGreat
namespace Go.Proofs.YtgkiknfpcbcnnaaGreat
open Go.RowKit
set_option maxRecDepth 20000
theorem lacks_self (T : List En) : lacks T T = 0 := by
  unfold lacks
  rw [List.countP_eq_zero]
  intro e he
  rw [(inT_iff T e).2 he]
  simp
theorem WrOK.none {T : List En} (h : T.length ≤ 256) : WrOK T T [] :=
  ⟨by rw [lacks_self]; rfl, by simp, fun _ => T, rfl, rfl, fun i hi => by simp at hi, fun _ _ => ⟨h, fun _ => .inl rfl⟩⟩
theorem ERow.over {w w' : World} {B g j : Nat} {v u : Value} {O : List En} (h : ERow w B v O) (hb : Below w.heap.size w w') (hg : g < B) : ERow (w'.setCell ⟨g, j, none⟩ u) B v O :=
  h.same fun b hk => by
    have hl := World.ownsRow.lt h b hk
    exact (Below.heap_setCell _ _ _ _ (by show b ≠ g; omega)).trans (hb.block b hl.2)
theorem LPost.no {F : Nat → Prop} {w w' : World} {g : Nat} {st st' : Gs} {x y : Int} (h : LGate w g st F) (hb : Below w.heap.size w w') (hx : Hid (x = y)) (hs : Hid (st' = st)) : XPostW LGate F w g st x st' (.returned (.tuple #[.slice none 0 0, .int .i64 y])) w' :=
  ⟨none, 0, [], F, st, by rw [hx.out]; rfl, WRow.nil _ _, fun _ => rfl, fun _ => by rw [hs.out]; exact WrOK.none (by have := tabS_len h.ok; omega), by rw [hs.out]; exact Sim.refl _, h.same hb.size (fun b hf => hb.block b (h.lt b hf)), fun b hf => .inl hf, fun b _ => by simp [Value.ownBlock], Off.of hb⟩
theorem LPost.yes {F F' : Nat → Prop} {w w5 w6 : World} {g : Nat} {s0 st st' : Gs} {x : Int} {a : Option Addr} {c : Nat} (h0 : GsOK s0) (h : LGate w5 g st' F') (hF : ∀ b, F' b → F b ∨ w.heap.size ≤ b) (ho : Off F w w5) (hrow : WRow w6 w5.heap.size (.slice a (wrS (tabS s0) (tabS st')).length c) (wrS (tabS s0) (tabS st'))) (hb : Below w5.heap.size w5 w6) (hx : Hid (x = 0)) (hs : Sim st' st) : XPostW LGate F w g s0 x st (.returned (.tuple #[.slice a (wrS (tabS s0) (tabS st')).length c, .int .i64 0])) w6 := by
  refine ⟨a, c, wrS (tabS s0) (tabS st'), F', st', by rw [hx.out], ownsRow_base hrow ho.size, fun hn => absurd hx.out hn, fun _ => ?_, hs, h.same hb.size (fun b hf => hb.block b (h.lt b hf)), hF, fun b hf e => ?_, ho.then hb⟩
  · rw [← hs.tabS h.ok.tel]
    exact wrS_tab h0 h.ok
  · have := (World.ownsRow.lt hrow b e).1
    have := h.lt b hf
    omega
theorem tabled_any {g : Nat} {st : Gs} {F : Nat → Prop} {w w' : World} (h : LGate w g st F) (hb : Below w.heap.size w w') : Calls Tryz.prog 38 #[.pointer (some ⟨g, 0, none⟩)] w' fun e w'' => (∃ oo oc, e = .returned (.slice oo (tabS st).length oc) ∧ ERow w'' w'.heap.size (.slice oo (tabS st).length oc) (tabS st)) ∧ Below w'.heap.size w' w'' ∧ Below w.heap.size w w'' := by
  refine (landTable_any g st F w' (h.same hb.size (fun b hf => hb.block b (h.lt b hf)))).mono ?_
  rintro e w'' ⟨⟨v, rfl, hrow⟩, hb'⟩
  obtain ⟨oo, oc, rfl⟩ := ownsRow_shape hrow
  exact ⟨⟨oo, oc, rfl, hrow⟩, hb', hb.trans (hb'.mono hb.size)⟩
theorem since_any {g : Nat} {s0 st' : Gs} {F' : Nat → Prop} {w5 : World} {oo : Option Addr} {oc B : Nat} (h0 : GsOK s0) (h : LGate w5 g st' F') (hO : ERow w5 B (.slice oo (tabS s0).length oc) (tabS s0)) :
    Calls Tryz.prog 44 #[.pointer (some ⟨g, 0, none⟩), .slice oo (tabS s0).length oc] w5 fun e w6 => (∃ a c, e = .returned (.slice a (wrS (tabS s0) (tabS st')).length c) ∧ WRow w6 w5.heap.size (.slice a (wrS (tabS s0) (tabS st')).length c) (wrS (tabS s0) (tabS st'))) ∧ Below w5.heap.size w5 w6 := by
  have hl0 := tabS_len h0
  have hl1 := tabS_len h.ok
  have hb := (both_of enR_asy (tabS_sorted h0.tel) (tabS_sorted h.ok.tel)).len
  refine (writesSince_any g st' F' (tabS s0) oo oc w5 h (EnIn.of hO) hl0 (by omega) (wrS_tab h0 h.ok).small).mono ?_
  rintro e w6 ⟨⟨v, rfl, hrow⟩, hb'⟩
  obtain ⟨a, c, rfl⟩ := ownsRow_shape hrow
  exact ⟨⟨a, c, rfl, hrow⟩, hb'⟩
end Go.Proofs.YtgkiknfpcbcnnaaGreat
