import Derived.Test.YtgkiknfpcbcnnaaGreatGl
import Derived.Test.YtgkiknfpcbcnnaaGreatGd
import Derived.Laws.AppendOwnNone
namespace Go.Proofs.YtgkiknfpcbcnnaaGreat
open Go.RowKit
set_option maxRecDepth 20000
def lv (pre : List UInt8) : Nat → Nat
  | 0 => 0
  | j + 1 => 2 * lv pre j + (if pre[j]? = some 49 then 1 else 0)
def dv (pre : List UInt8) : Nat := lv pre pre.length
theorem lv_lt (pre : List UInt8) : ∀ j, lv pre j < 2 ^ j := by
  intro j
  induction j with
  | zero => simp [lv]
  | succ j ih => simp only [lv]; rw [Nat.pow_succ]; split <;> omega
theorem lv_app (pre r : List UInt8) : ∀ j, j ≤ pre.length → lv (pre ++ r) j = lv pre j := by
  intro j
  induction j with
  | zero => intro _; rfl
  | succ j ih => intro h; simp only [lv]; rw [ih (by omega), List.getElem?_append_left (by omega)]
theorem dv_snoc (pre : List UInt8) (d : UInt8) : dv (pre ++ [d]) = 2 * dv pre + (if d = 49 then 1 else 0) := by
  unfold dv
  rw [List.length_append, List.length_singleton]
  show 2 * lv (pre ++ [d]) pre.length + _ = _
  rw [lv_app pre [d] _ (Nat.le_refl _)]
  simp
theorem lv_more (pre : List UInt8) : ∀ n, lv pre (pre.length + n) = dv pre * 2 ^ n := by
  intro n
  induction n with
  | zero => simp [dv]
  | succ n ih =>
    show 2 * lv pre (pre.length + n) + (if pre[pre.length + n]? = some 49 then 1 else 0) = _
    rw [ih, List.getElem?_eq_none (Nat.le_add_right _ _), Nat.pow_succ]
    simp only [reduceCtorEq, if_false, Nat.add_zero]
    rw [Nat.mul_comm 2, Nat.mul_assoc]
def stB : Nat → ByteArray
  | 0 => ⟨#[]⟩
  | k + 1 => stB k ++ ⟨#[42]⟩
theorem stB_size : ∀ k, (stB k).size = k := by
  intro k
  induction k with
  | zero => rfl
  | succ k ih => simp only [stB, ByteArray.size_append, ih]; rfl
theorem bl_stB : ∀ k, bl (stB k) = List.replicate k 42 := by
  intro k
  induction k with
  | zero => rfl
  | succ k ih => simp only [stB, bl_app, ih]; rw [List.replicate_succ']; rfl
theorem covS_len (f : Nat → Bool) : ∀ n pre x, (covS f n pre x).length ≤ 2 ^ n := by
  intro n
  induction n with
  | zero => intro pre x; simp only [covS]; split <;> simp
  | succ n ih =>
    intro pre x
    simp only [covS]
    split
    · split
      · rw [List.length_append, Nat.pow_succ]; have h1 := ih (pre ++ [48]) (2 * x); have h2 := ih (pre ++ [49]) (2 * x + 1); omega
      · simp; exact Nat.one_le_two_pow
    · simp
theorem covS_eq (f : Nat → Bool) (n : Nat) (pre : List UInt8) (x : Nat) :
    (yesB f n x = false → covS f n pre x = []) ∧ (yesB f n x = true → noB f n x = false → covS f n pre x = [pre ++ List.replicate n 42]) ∧
    (yesB f n x = true → noB f n x = true → ∃ k, n = k + 1 ∧ covS f n pre x = covS f k (pre ++ [48]) (2 * x) ++ covS f k (pre ++ [49]) (2 * x + 1)) := by
  cases n with
  | zero =>
    have e1 : yesB f 0 x = f x := by unfold yesB; simp [anyB]
    have e2 : noB f 0 x = !f x := by unfold noB; simp [anyB]
    rw [e1, e2]
    refine ⟨fun h => by simp [covS, h], fun h _ => by simp [covS, h], fun h1 h2 => by rw [h1] at h2; simp at h2⟩
  | succ n =>
    refine ⟨fun h => by simp [covS, h], fun h h2 => by simp [covS, h, h2], fun h1 h2 => ⟨n, rfl, by simp [covS, h1, h2]⟩⟩
theorem infoStr : (Tryz.prog.info? 9).map (fun i => (i.zero, i.size, i.bytes)) = some (some (.string ⟨#[]⟩), 1, 16) := by kernel_rfl
def StrRow (w : World) (B : Nat) (v : Value) (L : List ByteArray) : Prop := w.ownsRow B 9 1 v L.length (L.map Value.string)
theorem StrRow.nil (w : World) (B : Nat) : StrRow w B (.slice none 0 0) [] := World.ownsRow_nil _ _ _ _
theorem StrRow.below {w w' : World} {B : Nat} {v : Value} {L : List ByteArray} (h : StrRow w B v L) (hb : Below w.heap.size w w') : StrRow w' B v L := ownsRow_below h hb
theorem StrRow.base {w : World} {B B' : Nat} {v : Value} {L : List ByteArray} (h : StrRow w B v L) (hb : B' ≤ B) : StrRow w B' v L := by
  refine ⟨h.1, ?_⟩
  rcases h.2 with h | ⟨g, cap, cur, hv, hg, r⟩
  · exact .inl h
  · exact .inr ⟨g, cap, cur, hv, by omega, r⟩
theorem StrRow.one (w : World) (B : Nat) (s : ByteArray) (hB : B ≤ w.heap.size) : StrRow (w.alloc (.cells #[.string s] 9)) B (.slice (some ⟨w.heap.size, 0, none⟩) 1 1) [s] :=
  ⟨rfl, .inr ⟨w.heap.size, 1, #[.string s], rfl, hB, heap_alloc_new w _, Nat.le_refl _, by unfold maxLen; omega, rfl, rfl⟩⟩
def CovPost (f : Nat → Bool) (n : Nat) (pre : List UInt8) (B : Nat) (e : Ending) (w' : World) : Prop :=
  ∃ (v : Value) (L : List ByteArray), e = .returned v ∧ StrRow w' B v L ∧ L.map bl = covS f n pre (dv pre)
def CovOK (n : Nat) : Prop := ∀ (p : Pt) (B : ByteArray) (W : Nat) (ao : Option Addr) (cap : Nat) (w : World), p.ts.length ≤ 8 → allT p.ty true p.ts = true → B.size + n = W → W ≤ 16 → (p.ty = 5 → W = 8) → TermsIn w ao p.ts →
  Calls Tryz.prog 99 #[.agg #[.int .i64 p.ty, .int .i64 p.bt, .int .i64 p.ln, .slice ao p.ts.length cap], .string B, .int .i64 (W : Int)] w fun e w' => CovPost (fun v => gH p.ty v p.ts) n (bl B) w.heap.size e w' ∧ Below w.heap.size w w'
theorem bl_at (B : ByteArray) (j : Nat) (h : j < B.size) : (bl B)[j]? = some B[j] := by
  have hl : j < (bl B).length := by rw [bl_len]; exact h
  rw [List.getElem?_eq_getElem hl]
  rfl
theorem pow16 (k : Nat) (h : k ≤ 16) : 1 ≤ 2 ^ k ∧ 2 ^ k ≤ 65536 := pow_bd k h
set_option maxHeartbeats 2000000 in
theorem cover_step (n : Nat) (IH : ∀ k, n = k + 1 → CovOK k) : CovOK n := by
  intro p B W ao cap w hlen hall hW hBn h5 ht
  obtain ⟨i0, hi, hz0, hz1, hz2⟩ := info_parts infoStr
  have HI : Hid (∀ k, n = k + 1 → CovOK k) := IH
  have HT : Hid (TermsIn w ao p.ts) := ht
  have HE := covS_eq (fun v => gH p.ty v p.ts) n (bl B) (dv (bl B))
  have HE' : Hid ((yesB (fun v => gH p.ty v p.ts) n (dv (bl B)) = false → covS (fun v => gH p.ty v p.ts) n (bl B) (dv (bl B)) = []) ∧ (yesB (fun v => gH p.ty v p.ts) n (dv (bl B)) = true → noB (fun v => gH p.ty v p.ts) n (dv (bl B)) = false → covS (fun v => gH p.ty v p.ts) n (bl B) (dv (bl B)) = [bl B ++ List.replicate n 42]) ∧ (yesB (fun v => gH p.ty v p.ts) n (dv (bl B)) = true → noB (fun v => gH p.ty v p.ts) n (dv (bl B)) = true → ∃ k, n = k + 1 ∧ covS (fun v => gH p.ty v p.ts) n (bl B) (dv (bl B)) = covS (fun v => gH p.ty v p.ts) k (bl B ++ [48]) (2 * dv (bl B)) ++ covS (fun v => gH p.ty v p.ts) k (bl B ++ [49]) (2 * dv (bl B) + 1))) := HE
  clear HE IH ht
  have hlb : (bl B).length = B.size := bl_len B
  go_enter Tryz.func99, Tryz.ntmps99
  go_wp2
  go_loop [7, 8] (fun x i => ∃ j : Nat, j ≤ W ∧ x = .int .i64 (lv (bl B) j) ∧ i = .int .i64 j) (fun _ i => W - (intOf i).toNat)
  case atStart => exact ⟨0, Nat.zero_le _, rfl, rfl⟩
  case round =>
    obtain ⟨j, hj, rfl, rfl⟩ := hrel
    have hb1 := lv_lt (bl B) j
    have hb2 := pow16 j (by omega)
    by_cases hlt : j < W
    · have hs : lv (bl B) (j + 1) = 2 * lv (bl B) j + (if (bl B)[j]? = some 49 then 1 else 0) := rfl
      by_cases hin : j < B.size
      · have i1 : (j : Int) < (B.size : Int) := by omega
        rw [bl_at B j hin] at hs
        by_cases he : B[j] = 49
        · have HS : Hid (lv (bl B) (j + 1) = 2 * lv (bl B) j + 1) := by show _ = _; rw [hs, he]; simp
          have hq : ((B[j].toNat : Int) == 49) = true := by rw [he]; rfl
          clear hs
          generalize lv (bl B) j = x at *
          go_wp2
          go_round
          case rel => exact ⟨j + 1, by omega, by rw [HS.out]; go_num, by go_num⟩
          case measure => simp [intOf]; omega
        · have HS : Hid (lv (bl B) (j + 1) = 2 * lv (bl B) j) := by show _ = _; rw [hs]; simp [he]
          have hq : ((B[j].toNat : Int) == 49) = false := beq_eq_false_iff_ne.2 fun hh => he (UInt8.toNat_inj.1 (by show B[j].toNat = 49; omega))
          clear hs
          generalize lv (bl B) j = x at *
          go_wp2
          go_round
          case rel => exact ⟨j + 1, by omega, by rw [HS.out]; go_num, by go_num⟩
          case measure => simp [intOf]; omega
      · have HS : Hid (lv (bl B) (j + 1) = 2 * lv (bl B) j) := by show _ = _; rw [hs, List.getElem?_eq_none (by omega)]; simp
        have d1 : decide (j < B.size) = false := by simpa using hin
        clear hs
        generalize lv (bl B) j = x at *
        go_wp2
        go_round
        case rel => exact ⟨j + 1, by omega, by rw [HS.out]; go_num, by go_num⟩
        case measure => simp [intOf]; omega
    · have hjW : j = W := by omega
      clear hlt hj
      subst hjW
      have hx : lv (bl B) j = dv (bl B) * 2 ^ n := by have := lv_more (bl B) n; rw [hlb, hW] at this; exact this
      have hb3 : dv (bl B) * 2 ^ n + 2 ^ n ≤ 2 ^ j := by
        have hd : dv (bl B) < 2 ^ B.size := by have := lv_lt (bl B) (bl B).length; rw [hlb] at this; unfold dv; rw [hlb]; exact this
        rw [← hW, Nat.pow_add]
        have : (dv (bl B) + 1) * 2 ^ n ≤ 2 ^ B.size * 2 ^ n := Nat.mul_le_mul_right _ (by omega)
        rw [Nat.add_mul, Nat.one_mul] at this
        exact this
      rw [hx] at hb1 ⊢
      have hb5 : p.ty = 5 → dv (bl B) * 2 ^ n + 2 ^ n ≤ 256 := fun h => by rw [h5 h] at hb3; exact hb3
      have hyes : Hid (∀ hi', hi' = dv (bl B) * 2 ^ n + (2 ^ n - 1) → anyB (fun v => gH p.ty v p.ts) (dv (bl B) * 2 ^ n) (hi' + 1 - dv (bl B) * 2 ^ n) = yesB (fun v => gH p.ty v p.ts) n (dv (bl B)) ∧ anyB (fun v => !gH p.ty v p.ts) (dv (bl B) * 2 ^ n) (hi' + 1 - dv (bl B) * 2 ^ n) = noB (fun v => gH p.ty v p.ts) n (dv (bl B))) := by
        intro hi' hh
        have hp := (pow16 n (by omega)).1
        have e : hi' + 1 - dv (bl B) * 2 ^ n = 2 ^ n := by omega
        rw [e]
        exact ⟨rfl, rfl⟩
      generalize hlo : dv (bl B) * 2 ^ n = lo at *
      clear hx
      go_wp2_with fail
      go_loop [9, 10, 11, 12] (fun h s z i => ∃ k : Nat, k ≤ n ∧ h = .int .i64 ((lo + (2 ^ k - 1) : Nat) : Int) ∧ s = .string (stB k) ∧ z = .int .i64 ((2 ^ k : Nat) : Int) ∧ i = .int .i64 ((B.size + k : Nat) : Int)) (fun _ _ _ i => j - (intOf i).toNat)
      case atStart => exact ⟨0, Nat.zero_le _, by simp, rfl, rfl, by simp⟩
      case round =>
        obtain ⟨k, hk, rfl, rfl, rfl, rfl⟩ := hrel
        have hp := pow16 k (by omega)
        have hss := stB_size k
        by_cases hlt : k < n
        · have e1 : 2 ^ (k + 1) = 2 * 2 ^ k := by rw [Nat.pow_succ, Nat.mul_comm]
          have e2 : stB (k + 1) = stB k ++ ⟨#[42]⟩ := rfl
          have H1 : Hid (2 ^ (k + 1) = 2 * 2 ^ k) := e1
          have H2 : Hid (stB (k + 1) = stB k ++ ⟨#[42]⟩) := e2
          clear e1 e2
          generalize 2 ^ k = q at *
          generalize stB k = st at *
          have hbk : B.size + k < j := by omega
          generalize hbq : B.size + k = bk at *
          go_wp2
          go_round
          case rel => exact ⟨k + 1, by omega, by rw [H1.out]; congr 1; omega, by rw [H2.out], by rw [H1.out]; congr 1, by congr 1; omega⟩
          case measure => simp [intOf]; omega
        · obtain rfl : k = n := by omega
          have hq := hyes.out _ rfl
          have hmx : lo ≤ lo + (2 ^ k - 1) := by omega
          have hmy : lo + (2 ^ k - 1) ≤ 65535 := by have := (pow16 j hBn).2; omega
          have hmz : p.ty = 5 → lo + (2 ^ k - 1) ≤ 255 := fun h => by have := hb5 h; omega
          clear hlt hk
          have hpt := HT.out.below (below_alloc w (.cells #[.int .i64 p.ty, .int .i64 p.bt, .int .i64 p.ln, .slice ao p.ts.length cap] 140))
          have hsz : B.size + (stB k).size ≤ 9223372036854775807 := by omega
          generalize hhi : lo + (2 ^ k - 1) = top at *
          cases hy : yesB (fun v => gH p.ty v p.ts) k (dv (bl B))
          · rw [hy] at hq
            have HR : Hid (covS (fun v => gH p.ty v p.ts) k (bl B) (dv (bl B)) = []) := HE'.out.1 hy
            go_wp2_with (go_at_call 120; refine (mixed_any p lo top _ _ _ hmx hmy hmz hlen hall hpt).mono ?_; rintro e w1 ⟨rfl, hb1⟩; rw [hq.1])
            go_ret
            exact ⟨⟨_, [], rfl, StrRow.nil _ _, by rw [HR.out]; rfl⟩, below_first hb1⟩
          · cases hn : noB (fun v => gH p.ty v p.ts) k (dv (bl B))
            · rw [hy, hn] at hq
              have HR : Hid (covS (fun v => gH p.ty v p.ts) k (bl B) (dv (bl B)) = [bl B ++ List.replicate k 42]) := HE'.out.2.1 hy hn
              go_wp2_with (go_at_call 120; refine (mixed_any p lo top _ _ _ hmx hmy hmz hlen hall hpt).mono ?_; rintro e w1 ⟨rfl, hb1⟩; rw [hq.1, hq.2])
              go_ret
              have hz1 := (below_first hb1).size
              exact ⟨⟨_, [B ++ stB k], rfl, StrRow.one w1 _ _ hz1, by rw [HR.out]; simp [bl_app, bl_stB]⟩, (below_first hb1).alloc hz1 _⟩
            · rw [hy, hn] at hq
              obtain ⟨m, hm, hc⟩ := HE'.out.2.2 hy hn
              have C0 := HI.out m hm p (B ++ ⟨#[48]⟩) j
              have C1 := HI.out m hm p (B ++ ⟨#[49]⟩) j
              have z0 : (B ++ (⟨#[48]⟩ : ByteArray)).size + m = j := by rw [ByteArray.size_append]; show B.size + 1 + m = j; omega
              have z1 : (B ++ (⟨#[49]⟩ : ByteArray)).size + m = j := by rw [ByteArray.size_append]; show B.size + 1 + m = j; omega
              have D0 : Hid (∀ (w : World), TermsIn w ao p.ts → Calls Tryz.prog 99 #[.agg #[.int .i64 p.ty, .int .i64 p.bt, .int .i64 p.ln, .slice ao p.ts.length cap], .string (B ++ ⟨#[48]⟩), .int .i64 (j : Int)] w fun e w' => CovPost (fun v => gH p.ty v p.ts) m (bl (B ++ ⟨#[48]⟩)) w.heap.size e w' ∧ Below w.heap.size w w') := fun w hh => C0 ao cap w hlen hall z0 hBn h5 hh
              have D1 : Hid (∀ (w : World), TermsIn w ao p.ts → Calls Tryz.prog 99 #[.agg #[.int .i64 p.ty, .int .i64 p.bt, .int .i64 p.ln, .slice ao p.ts.length cap], .string (B ++ ⟨#[49]⟩), .int .i64 (j : Int)] w fun e w' => CovPost (fun v => gH p.ty v p.ts) m (bl (B ++ ⟨#[49]⟩)) w.heap.size e w' ∧ Below w.heap.size w w') := fun w hh => C1 ao cap w hlen hall z1 hBn h5 hh
              have HR : Hid (covS (fun v => gH p.ty v p.ts) k (bl B) (dv (bl B)) = covS (fun v => gH p.ty v p.ts) m (bl (B ++ ⟨#[48]⟩)) (dv (bl (B ++ ⟨#[48]⟩))) ++ covS (fun v => gH p.ty v p.ts) m (bl (B ++ ⟨#[49]⟩)) (dv (bl (B ++ ⟨#[49]⟩)))) := by
                show _ = _
                have e0 : bl (B ++ ⟨#[48]⟩) = bl B ++ [48] := by rw [bl_app]; rfl
                have e1 : bl (B ++ ⟨#[49]⟩) = bl B ++ [49] := by rw [bl_app]; rfl
                rw [hc, e0, e1, dv_snoc, dv_snoc]
                rfl
              have hln0 := covS_len (fun v => gH p.ty v p.ts) m (bl (B ++ ⟨#[48]⟩)) (dv (bl (B ++ ⟨#[48]⟩)))
              have hln1 := covS_len (fun v => gH p.ty v p.ts) m (bl (B ++ ⟨#[49]⟩)) (dv (bl (B ++ ⟨#[49]⟩)))
              have hpm := (pow16 m (by omega)).2
              clear C0 C1 z0 z1 hc hm
              have s1 : B.size + 1 ≤ 9223372036854775807 := by omega
              go_wp2_with fail
              refine (mixed_any p lo top _ _ _ hmx hmy hmz hlen hall hpt).mono ?_
              rintro e w1 ⟨rfl, hb1⟩
              rw [hq.1, hq.2]
              obtain ⟨a0, a1, a2, a3, af, az⟩ := cells_of_below hb1
              have hw1 := below_first hb1
              go_wp2_with fail
              refine (D0.out _ (HT.out.below hw1)).mono ?_
              rintro e w2 ⟨⟨v0, L0, rfl, hr0, hl0⟩, hb2⟩
              have hw2 : Below w.heap.size w w2 := hw1.trans (hb2.mono hw1.size)
              have k0 := (hb2.cell (p := ⟨w.heap.size, 0, none⟩) az).trans a0
              have k1 := (hb2.cell (p := ⟨w.heap.size, 1, none⟩) az).trans a1
              have k2 := (hb2.cell (p := ⟨w.heap.size, 2, none⟩) az).trans a2
              have k3 := (hb2.cell (p := ⟨w.heap.size, 3, none⟩) az).trans a3
              obtain ⟨o0, p0, rfl⟩ := ownsRow_shape hr0
              go_wp2_with fail
              refine (D1.out _ (HT.out.below hw2)).mono ?_
              rintro e w3 ⟨⟨v1, L1, rfl, hr1, hl1⟩, hb3⟩
              have hw3 : Below w.heap.size w w3 := hw2.trans (hb3.mono hw2.size)
              have hr0' := (hr0.below hb3).base (B' := w.heap.size) hw1.size
              have hz3 := hw3.size
              have n0 : L0.length ≤ 65536 := by have := congrArg List.length hl0; rw [List.length_map] at this; omega
              have n1 : L1.length ≤ 65536 := by have := congrArg List.length hl1; rw [List.length_map] at this; omega
              have HL : Hid ((L0 ++ L1).map bl = covS (fun v => gH p.ty v p.ts) k (bl B) (dv (bl B))) := by show _ = _; rw [List.map_append, hl0, hl1, HR.out]
              clear hl0 hl1 HR k0 k1 k2 k3 a0 a1 a2 a3 af az D0 D1 hln0 hln1
              rcases hr1.2 with ⟨rfl, hnil⟩ | ⟨g, cp, cur, rfl, _⟩
              · have hL1 : L1 = [] := List.length_eq_zero_iff.1 hnil
                subst hL1
                clear hnil
                go_wp2_with (at_builtin; refine wpList_append_own_none rfl _ _ 117 rfl w.heap.size 9 i0 1 Tryz.underlying117 hi _ _ _ rfl hr0' rfl ?_)
                go_ret
                exact ⟨⟨_, L0, rfl, hr0', by have := HL.out; rw [List.append_nil] at this; exact this⟩, hw3⟩
              · have hcells := fun jj u hh => hr1.cells (g := g) rfl jj u hh
                go_wp2_with (at_builtin; refine wpList_append_own _ rfl _ _ 117 rfl w.heap.size 9 i0 _ 1 16 Tryz.underlying117 hi hz0 hz1 hz2 rfl (by decide) _ _ _ rfl hr0' ⟨g, 0, none⟩ L1.length cp (L1.map Value.string) rfl hr1.1 hcells (by intro u hu; obtain ⟨x, _, rfl⟩ := List.mem_map.1 hu; rfl) (by unfold maxLen; omega) (by omega) hz3 ?_; intro v' w4 hown hgrow _)
                go_ret
                exact ⟨⟨_, L0 ++ L1, rfl, by unfold StrRow; rw [List.length_append, List.map_append]; exact hown, HL.out⟩, hw3.grown hgrow (by omega) (fun kk hk => (hr0'.lt kk hk).1)⟩
theorem cover_all : ∀ n, CovOK n := by
  intro n
  induction n with
  | zero => exact cover_step 0 (fun k h => by omega)
  | succ n ih => exact cover_step (n + 1) (fun k h => by obtain rfl : n = k := by omega
                                                         exact ih)
end Go.Proofs.YtgkiknfpcbcnnaaGreat
namespace Go.Proofs.YtgkiknfpcbcnnaaGreat
open Go.RowKit
set_option maxRecDepth 20000
def wOf (k : Int) : Nat := if k = 3 ∨ k = 5 then 8 else 16
def blkP (p : Pt) : List (List UInt8) := if hasP p.ty then [binL (p.bt.toNat / 2 ^ (16 - p.ln.toNat)) p.ln.toNat ++ List.replicate (16 - p.ln.toNat) 42] else covS (fun v => gH p.ty v p.ts) (wOf p.ty) [] 0
def blkS (k : Int) : List Pt → List (List UInt8)
  | [] => [List.replicate (wOf k) 42]
  | p :: r => if p.ty = k then blkP p else blkS k r
def st16 : ByteArray := ⟨#[42, 42, 42, 42, 42, 42, 42, 42, 42, 42, 42, 42, 42, 42, 42, 42]⟩
theorem bl_st16 : bl st16 = List.replicate 16 42 := rfl
theorem st16_behind (l : Nat) (h : l ≤ 16) : bl (st16.extract l 16) = List.replicate (16 - l) 42 ∧ (st16.extract l 16).size = 16 - l := by
  have e : bl (st16.extract l 16) = ((bl st16).take 16).drop l := by
    unfold bl
    rw [ByteArray.data_extract]
    simp [Array.toList_extract, List.extract_eq_take_drop]
    rw [List.drop_take]
  constructor
  · rw [e, bl_st16, List.take_of_length_le (by simp), List.drop_replicate]
  · rw [ByteArray.size_extract]
    show min 16 16 - l = 16 - l
    omega
theorem pfxSz (v l : Nat) (h : l ≤ 16) : ((bin v 16).extract 0 l).size = l := by
  have := bin_size v 16
  rw [ByteArray.size_extract]
  omega
def BlkPost (k : Int) (ps : List Pt) (B : Nat) (e : Ending) (w' : World) : Prop :=
  ∃ (v : Value) (L : List ByteArray), e = .returned v ∧ StrRow w' B v L ∧ L.map bl = blkS k ps
set_option maxHeartbeats 1000000 in
theorem blocks_3 (ps : List Pt) (ao : Option Addr) (cap : Nat) (w : World) (l5 : ps.length ≤ 5) (hP : ∀ j (h : j < ps.length), isP ps[j] = true) (ha : PartsIn w ao ps) :
    Calls Tryz.prog 77 #[.agg #[.slice ao ps.length cap], .int .i64 3] w fun e w' => BlkPost 3 ps w.heap.size e w' ∧ Below w.heap.size w w' := by
  have HP : Hid (∀ j (h : j < ps.length), isP ps[j] = true) := hP
  clear hP
  go_enter Tryz.func77, Tryz.ntmps77
  go_wp2
  go_loopw [7] (fun x wr => ∃ j : Nat, x = .int .i64 j ∧ j ≤ ps.length ∧ Below (w.heap.size + 1) (w.alloc (.cells #[.slice ao ps.length cap] 114)) wr ∧ Hid (blkS 3 ps = blkS 3 (ps.drop j))) (fun x _ => ps.length - (intOf x).toNat)
  case atStart => exact ⟨0, rfl, Nat.zero_le _, Below.refl _ _, rfl⟩
  case round =>
    obtain ⟨j, rfl, hj, hbel, H⟩ := hrel
    have hb0 := below_first' hbel
    have hz := hb0.size
    have k0 : wr.cell? ⟨w.heap.size, 0, none⟩ = some (.slice ao ps.length cap) := (hbel.cell (by simp)).trans (by simp [go_sem])
    have hz' := hbel.size
    simp only [World.size_alloc] at hz'
    have kz : w.heap.size < wr.heap.size := by omega
    by_cases hlt : j < ps.length
    · obtain ⟨bk, off, tao, tcap, rfl, c0, c1, c2, c3, hl, ht⟩ := ha.below hb0 j hlt
      have hp := HP.out j hlt
      have hd : ps.drop j = ps[j] :: ps.drop (j + 1) := List.drop_eq_getElem_cons hlt
      rw [hd] at H
      clear hd ha
      generalize ps[j] = p at *
      by_cases hty : p.ty = 3
      · have HB : Hid (blkS 3 ps = blkP p) := by
          show _ = _
          rw [H.out]
          show (if p.ty = 3 then _ else _) = _
          rw [if_pos hty]
        clear H
        have hkp : hasP p.ty = false := by rw [hty]; rfl
        have hT := isP_terms hp hkp
        have h8 := hT.2.2.2.2.1
        have hall := hT.2.2.2.2.2
        have hbe : (p.ty == 3) = true := by simpa using hty
        have HTY : Hid (p.ty = 3) := hty
        have hwd : p.ty = 5 → 8 = 8 := fun h5 => by first | rfl | (rw [hty] at h5; omega)
        have ht2 := ht.below (below_alloc wr (.cells #[.int .i64 p.ty, .int .i64 p.bt, .int .i64 p.ln, .slice tao p.ts.length tcap] 140))
        have C := cover_all 8 p ⟨#[]⟩ 8 tao tcap _ h8 hall rfl (by omega) hwd ht2
        have C' : Hid (Calls Tryz.prog 99 #[.agg #[.int .i64 p.ty, .int .i64 p.bt, .int .i64 p.ln, .slice tao p.ts.length tcap], .string ⟨#[]⟩, .int .i64 8] (wr.alloc (.cells #[.int .i64 p.ty, .int .i64 p.bt, .int .i64 p.ln, .slice tao p.ts.length tcap] 140)) fun e w' => CovPost (fun v => gH p.ty v p.ts) 8 (bl ⟨#[]⟩) (wr.alloc (.cells #[.int .i64 p.ty, .int .i64 p.bt, .int .i64 p.ln, .slice tao p.ts.length tcap] 140)).heap.size e w' ∧ Below (wr.alloc (.cells #[.int .i64 p.ty, .int .i64 p.bt, .int .i64 p.ln, .slice tao p.ts.length tcap] 140)).heap.size (wr.alloc (.cells #[.int .i64 p.ty, .int .i64 p.bt, .int .i64 p.ln, .slice tao p.ts.length tcap] 140)) w') := C
        clear C hT hty
        go_wp2_with fail
        refine C'.out.mono ?_
        rintro e w1 ⟨⟨v, L, rfl, hr, hL⟩, hb1⟩
        have hr' := hr.base (B' := w.heap.size) (by simp; omega)
        have HL : Hid (L.map bl = blkS 3 ps) := by
          show _ = _
          have e1 : wOf p.ty = 8 := by rw [HTY.out]; rfl
          have e2 : bl (⟨#[]⟩ : ByteArray) = [] := rfl
          have e3 : dv [] = 0 := rfl
          rw [hL, HB.out]
          unfold blkP
          rw [hkp, e1, e2, e3]
          simp only [Bool.false_eq_true, if_false]
        clear hL HB HTY C'
        go_wp2
        go_ret
        exact ⟨⟨_, L, rfl, hr', HL.out⟩, hb0.trans ((below_first hb1).mono hz)⟩
      · have HN : Hid (blkS 3 ps = blkS 3 (ps.drop (j + 1))) := by
          show _ = _
          rw [H.out]
          show (if p.ty = 3 then _ else _) = _
          rw [if_neg hty]
        have hbe : (p.ty == 3) = false := by simpa using hty
        clear H hty
        go_wp2
        go_roundw
        case rel => exact ⟨j + 1, by go_num, by omega, hbel.alloc (by omega) _, HN⟩
        case measure => simp [intOf]; omega
    · have HN : Hid (blkS 3 ps = [List.replicate (wOf 3) 42]) := by show _ = _; rw [H.out, List.drop_of_length_le (by omega)]; rfl
      clear H ha
      go_wp2
      go_ret
      exact ⟨⟨_, [st16.extract 0 (wOf 3)], rfl, StrRow.one wr _ _ hz, by rw [HN.out]; rfl⟩, hb0.alloc hz _⟩
set_option maxHeartbeats 1000000 in
theorem blocks_4 (ps : List Pt) (ao : Option Addr) (cap : Nat) (w : World) (l5 : ps.length ≤ 5) (hP : ∀ j (h : j < ps.length), isP ps[j] = true) (ha : PartsIn w ao ps) :
    Calls Tryz.prog 77 #[.agg #[.slice ao ps.length cap], .int .i64 4] w fun e w' => BlkPost 4 ps w.heap.size e w' ∧ Below w.heap.size w w' := by
  have HP : Hid (∀ j (h : j < ps.length), isP ps[j] = true) := hP
  clear hP
  go_enter Tryz.func77, Tryz.ntmps77
  go_wp2
  go_loopw [7] (fun x wr => ∃ j : Nat, x = .int .i64 j ∧ j ≤ ps.length ∧ Below (w.heap.size + 1) (w.alloc (.cells #[.slice ao ps.length cap] 114)) wr ∧ Hid (blkS 4 ps = blkS 4 (ps.drop j))) (fun x _ => ps.length - (intOf x).toNat)
  case atStart => exact ⟨0, rfl, Nat.zero_le _, Below.refl _ _, rfl⟩
  case round =>
    obtain ⟨j, rfl, hj, hbel, H⟩ := hrel
    have hb0 := below_first' hbel
    have hz := hb0.size
    have k0 : wr.cell? ⟨w.heap.size, 0, none⟩ = some (.slice ao ps.length cap) := (hbel.cell (by simp)).trans (by simp [go_sem])
    have hz' := hbel.size
    simp only [World.size_alloc] at hz'
    have kz : w.heap.size < wr.heap.size := by omega
    by_cases hlt : j < ps.length
    · obtain ⟨bk, off, tao, tcap, rfl, c0, c1, c2, c3, hl, ht⟩ := ha.below hb0 j hlt
      have hp := HP.out j hlt
      have hd : ps.drop j = ps[j] :: ps.drop (j + 1) := List.drop_eq_getElem_cons hlt
      rw [hd] at H
      clear hd ha
      generalize ps[j] = p at *
      by_cases hty : p.ty = 4
      · have HB : Hid (blkS 4 ps = blkP p) := by
          show _ = _
          rw [H.out]
          show (if p.ty = 4 then _ else _) = _
          rw [if_pos hty]
        clear H
        have hkp : hasP p.ty = false := by rw [hty]; rfl
        have hT := isP_terms hp hkp
        have h8 := hT.2.2.2.2.1
        have hall := hT.2.2.2.2.2
        have hbe : (p.ty == 4) = true := by simpa using hty
        have HTY : Hid (p.ty = 4) := hty
        have hwd : p.ty = 5 → 16 = 8 := fun h5 => by first | rfl | (rw [hty] at h5; omega)
        have ht2 := ht.below (below_alloc wr (.cells #[.int .i64 p.ty, .int .i64 p.bt, .int .i64 p.ln, .slice tao p.ts.length tcap] 140))
        have C := cover_all 16 p ⟨#[]⟩ 16 tao tcap _ h8 hall rfl (by omega) hwd ht2
        have C' : Hid (Calls Tryz.prog 99 #[.agg #[.int .i64 p.ty, .int .i64 p.bt, .int .i64 p.ln, .slice tao p.ts.length tcap], .string ⟨#[]⟩, .int .i64 16] (wr.alloc (.cells #[.int .i64 p.ty, .int .i64 p.bt, .int .i64 p.ln, .slice tao p.ts.length tcap] 140)) fun e w' => CovPost (fun v => gH p.ty v p.ts) 16 (bl ⟨#[]⟩) (wr.alloc (.cells #[.int .i64 p.ty, .int .i64 p.bt, .int .i64 p.ln, .slice tao p.ts.length tcap] 140)).heap.size e w' ∧ Below (wr.alloc (.cells #[.int .i64 p.ty, .int .i64 p.bt, .int .i64 p.ln, .slice tao p.ts.length tcap] 140)).heap.size (wr.alloc (.cells #[.int .i64 p.ty, .int .i64 p.bt, .int .i64 p.ln, .slice tao p.ts.length tcap] 140)) w') := C
        clear C hT hty
        go_wp2_with fail
        refine C'.out.mono ?_
        rintro e w1 ⟨⟨v, L, rfl, hr, hL⟩, hb1⟩
        have hr' := hr.base (B' := w.heap.size) (by simp; omega)
        have HL : Hid (L.map bl = blkS 4 ps) := by
          show _ = _
          have e1 : wOf p.ty = 16 := by rw [HTY.out]; rfl
          have e2 : bl (⟨#[]⟩ : ByteArray) = [] := rfl
          have e3 : dv [] = 0 := rfl
          rw [hL, HB.out]
          unfold blkP
          rw [hkp, e1, e2, e3]
          simp only [Bool.false_eq_true, if_false]
        clear hL HB HTY C'
        go_wp2
        go_ret
        exact ⟨⟨_, L, rfl, hr', HL.out⟩, hb0.trans ((below_first hb1).mono hz)⟩
      · have HN : Hid (blkS 4 ps = blkS 4 (ps.drop (j + 1))) := by
          show _ = _
          rw [H.out]
          show (if p.ty = 4 then _ else _) = _
          rw [if_neg hty]
        have hbe : (p.ty == 4) = false := by simpa using hty
        clear H hty
        go_wp2
        go_roundw
        case rel => exact ⟨j + 1, by go_num, by omega, hbel.alloc (by omega) _, HN⟩
        case measure => simp [intOf]; omega
    · have HN : Hid (blkS 4 ps = [List.replicate (wOf 4) 42]) := by show _ = _; rw [H.out, List.drop_of_length_le (by omega)]; rfl
      clear H ha
      go_wp2
      go_ret
      exact ⟨⟨_, [st16.extract 0 (wOf 4)], rfl, StrRow.one wr _ _ hz, by rw [HN.out]; rfl⟩, hb0.alloc hz _⟩
set_option maxHeartbeats 1000000 in
theorem blocks_5 (ps : List Pt) (ao : Option Addr) (cap : Nat) (w : World) (l5 : ps.length ≤ 5) (hP : ∀ j (h : j < ps.length), isP ps[j] = true) (ha : PartsIn w ao ps) :
    Calls Tryz.prog 77 #[.agg #[.slice ao ps.length cap], .int .i64 5] w fun e w' => BlkPost 5 ps w.heap.size e w' ∧ Below w.heap.size w w' := by
  have HP : Hid (∀ j (h : j < ps.length), isP ps[j] = true) := hP
  clear hP
  go_enter Tryz.func77, Tryz.ntmps77
  go_wp2
  go_loopw [7] (fun x wr => ∃ j : Nat, x = .int .i64 j ∧ j ≤ ps.length ∧ Below (w.heap.size + 1) (w.alloc (.cells #[.slice ao ps.length cap] 114)) wr ∧ Hid (blkS 5 ps = blkS 5 (ps.drop j))) (fun x _ => ps.length - (intOf x).toNat)
  case atStart => exact ⟨0, rfl, Nat.zero_le _, Below.refl _ _, rfl⟩
  case round =>
    obtain ⟨j, rfl, hj, hbel, H⟩ := hrel
    have hb0 := below_first' hbel
    have hz := hb0.size
    have k0 : wr.cell? ⟨w.heap.size, 0, none⟩ = some (.slice ao ps.length cap) := (hbel.cell (by simp)).trans (by simp [go_sem])
    have hz' := hbel.size
    simp only [World.size_alloc] at hz'
    have kz : w.heap.size < wr.heap.size := by omega
    by_cases hlt : j < ps.length
    · obtain ⟨bk, off, tao, tcap, rfl, c0, c1, c2, c3, hl, ht⟩ := ha.below hb0 j hlt
      have hp := HP.out j hlt
      have hd : ps.drop j = ps[j] :: ps.drop (j + 1) := List.drop_eq_getElem_cons hlt
      rw [hd] at H
      clear hd ha
      generalize ps[j] = p at *
      by_cases hty : p.ty = 5
      · have HB : Hid (blkS 5 ps = blkP p) := by
          show _ = _
          rw [H.out]
          show (if p.ty = 5 then _ else _) = _
          rw [if_pos hty]
        clear H
        have hkp : hasP p.ty = false := by rw [hty]; rfl
        have hT := isP_terms hp hkp
        have h8 := hT.2.2.2.2.1
        have hall := hT.2.2.2.2.2
        have hbe : (p.ty == 5) = true := by simpa using hty
        have HTY : Hid (p.ty = 5) := hty
        have hwd : p.ty = 5 → 8 = 8 := fun h5 => by first | rfl | (rw [hty] at h5; omega)
        have ht2 := ht.below (below_alloc wr (.cells #[.int .i64 p.ty, .int .i64 p.bt, .int .i64 p.ln, .slice tao p.ts.length tcap] 140))
        have C := cover_all 8 p ⟨#[]⟩ 8 tao tcap _ h8 hall rfl (by omega) hwd ht2
        have C' : Hid (Calls Tryz.prog 99 #[.agg #[.int .i64 p.ty, .int .i64 p.bt, .int .i64 p.ln, .slice tao p.ts.length tcap], .string ⟨#[]⟩, .int .i64 8] (wr.alloc (.cells #[.int .i64 p.ty, .int .i64 p.bt, .int .i64 p.ln, .slice tao p.ts.length tcap] 140)) fun e w' => CovPost (fun v => gH p.ty v p.ts) 8 (bl ⟨#[]⟩) (wr.alloc (.cells #[.int .i64 p.ty, .int .i64 p.bt, .int .i64 p.ln, .slice tao p.ts.length tcap] 140)).heap.size e w' ∧ Below (wr.alloc (.cells #[.int .i64 p.ty, .int .i64 p.bt, .int .i64 p.ln, .slice tao p.ts.length tcap] 140)).heap.size (wr.alloc (.cells #[.int .i64 p.ty, .int .i64 p.bt, .int .i64 p.ln, .slice tao p.ts.length tcap] 140)) w') := C
        clear C hT hty
        go_wp2_with fail
        refine C'.out.mono ?_
        rintro e w1 ⟨⟨v, L, rfl, hr, hL⟩, hb1⟩
        have hr' := hr.base (B' := w.heap.size) (by simp; omega)
        have HL : Hid (L.map bl = blkS 5 ps) := by
          show _ = _
          have e1 : wOf p.ty = 8 := by rw [HTY.out]; rfl
          have e2 : bl (⟨#[]⟩ : ByteArray) = [] := rfl
          have e3 : dv [] = 0 := rfl
          rw [hL, HB.out]
          unfold blkP
          rw [hkp, e1, e2, e3]
          simp only [Bool.false_eq_true, if_false]
        clear hL HB HTY C'
        go_wp2
        go_ret
        exact ⟨⟨_, L, rfl, hr', HL.out⟩, hb0.trans ((below_first hb1).mono hz)⟩
      · have HN : Hid (blkS 5 ps = blkS 5 (ps.drop (j + 1))) := by
          show _ = _
          rw [H.out]
          show (if p.ty = 5 then _ else _) = _
          rw [if_neg hty]
        have hbe : (p.ty == 5) = false := by simpa using hty
        clear H hty
        go_wp2
        go_roundw
        case rel => exact ⟨j + 1, by go_num, by omega, hbel.alloc (by omega) _, HN⟩
        case measure => simp [intOf]; omega
    · have HN : Hid (blkS 5 ps = [List.replicate (wOf 5) 42]) := by show _ = _; rw [H.out, List.drop_of_length_le (by omega)]; rfl
      clear H ha
      go_wp2
      go_ret
      exact ⟨⟨_, [st16.extract 0 (wOf 5)], rfl, StrRow.one wr _ _ hz, by rw [HN.out]; rfl⟩, hb0.alloc hz _⟩
set_option maxHeartbeats 1000000 in
theorem blocks_1 (ps : List Pt) (ao : Option Addr) (cap : Nat) (w : World) (l5 : ps.length ≤ 5) (hP : ∀ j (h : j < ps.length), isP ps[j] = true) (ha : PartsIn w ao ps) :
    Calls Tryz.prog 77 #[.agg #[.slice ao ps.length cap], .int .i64 1] w fun e w' => BlkPost 1 ps w.heap.size e w' ∧ Below w.heap.size w w' := by
  have HP : Hid (∀ j (h : j < ps.length), isP ps[j] = true) := hP
  clear hP
  go_enter Tryz.func77, Tryz.ntmps77
  go_wp2
  go_loopw [7] (fun x wr => ∃ j : Nat, x = .int .i64 j ∧ j ≤ ps.length ∧ Below (w.heap.size + 1) (w.alloc (.cells #[.slice ao ps.length cap] 114)) wr ∧ Hid (blkS 1 ps = blkS 1 (ps.drop j))) (fun x _ => ps.length - (intOf x).toNat)
  case atStart => exact ⟨0, rfl, Nat.zero_le _, Below.refl _ _, rfl⟩
  case round =>
    obtain ⟨j, rfl, hj, hbel, H⟩ := hrel
    have hb0 := below_first' hbel
    have hz := hb0.size
    have k0 : wr.cell? ⟨w.heap.size, 0, none⟩ = some (.slice ao ps.length cap) := (hbel.cell (by simp)).trans (by simp [go_sem])
    have hz' := hbel.size
    simp only [World.size_alloc] at hz'
    have kz : w.heap.size < wr.heap.size := by omega
    by_cases hlt : j < ps.length
    · obtain ⟨bk, off, tao, tcap, rfl, c0, c1, c2, c3, hl, ht⟩ := ha.below hb0 j hlt
      have hp := HP.out j hlt
      have hd : ps.drop j = ps[j] :: ps.drop (j + 1) := List.drop_eq_getElem_cons hlt
      rw [hd] at H
      clear hd ha
      generalize ps[j] = p at *
      by_cases hty : p.ty = 1
      · have HB : Hid (blkS 1 ps = blkP p) := by
          show _ = _
          rw [H.out]
          show (if p.ty = 1 then _ else _) = _
          rw [if_pos hty]
        clear H
        have hkp : hasP p.ty = true := by rw [hty]; rfl
        have hbe : (p.ty == 1) = true := by simpa using hty
        obtain ⟨o1, o2, o3, o4, _⟩ := prefOK_bd (isP_pref hp hkp).2
        obtain ⟨ty, bt, ln, ts⟩ := p
        simp only [] at c0 c1 c2 c3 o1 o2 o3 o4 hkp hbe ht hl hty
        obtain ⟨b, rfl⟩ := Int.eq_ofNat_of_zero_le o3
        obtain ⟨l, rfl⟩ := Int.eq_ofNat_of_zero_le o1
        have hl16 : l ≤ 16 := by omega
        have hb16 : b ≤ 65535 := by omega
        have HL : Hid ([(bin b 16).extract 0 l ++ st16.extract l 16].map bl = blkS 1 ps) := by
          show _ = _
          rw [HB.out]
          unfold blkP
          simp only [hkp, if_true, List.map_cons, List.map_nil, bl_app, Int.toNat_natCast]
          have e1 : bl ((bin b 16).extract 0 l) = binL (b / 2 ^ (16 - l)) l := bl_pfx b l hl16
          rw [e1, (st16_behind l hl16).1]
        clear HB o1 o2 o3 o4 hty
        have s1 := bin_size b 16
        have s2 := pfxSz b l hl16
        have s3 := (st16_behind l hl16).2
        have i1 : (l : Int) ≤ 16 := by omega
        have i2 : (0 : Int) ≤ (l : Int) := by omega
        have f1 : l + (16 - l) ≤ 9223372036854775807 := by omega
        obtain ⟨W0, hW0⟩ : ∃ W0, W0 = wr.alloc (.cells #[.int .i64 ty, .int .i64 b, .int .i64 l, .slice tao ts.length tcap] 140) := ⟨_, rfl⟩
        have b1 : Below (wr.alloc (.cells #[.int .i64 ty, .int .i64 b, .int .i64 l, .slice tao ts.length tcap] 140)).heap.size (wr.alloc (.cells #[.int .i64 ty, .int .i64 b, .int .i64 l, .slice tao ts.length tcap] 140)) W0 := by rw [hW0]; exact Below.refl _ _
        obtain ⟨a0, a1, a2, a3, af, az⟩ := cells_of_below b1
        have bw := below_first b1
        have HS : Hid (∀ w' : World, Below W0.heap.size W0 w' → w'.cell? ⟨wr.heap.size, 1, none⟩ = some (.int .i64 b) ∧ w'.cell? ⟨wr.heap.size, 2, none⟩ = some (.int .i64 l) ∧ Below W0.heap.size W0 w') := fun w' hx =>
          ⟨(hx.cell az).trans a1, (hx.cell az).trans a2, hx⟩
        have HW : Hid (W0 = wr.alloc (.cells #[.int .i64 ty, .int .i64 b, .int .i64 l, .slice tao ts.length tcap] 140)) := hW0
        clear a0 a1 a2 a3 af b1 hW0
        go_wp2_with fail
        rw [← HW.out]
        clear c0 c1 c2 c3 HW
        go_region_held3 (fun w' => w'.cell? ⟨wr.heap.size, 1, none⟩ = some (.int .i64 b) ∧ w'.cell? ⟨wr.heap.size, 2, none⟩ = some (.int .i64 l) ∧ Below W0.heap.size W0 w')
          (first | exact HS.out _ (by assumption) | exact HS.out _ (Below.refl _ _).drew | exact HS.out _ ((Below.refl _ _).alloc (Nat.le_refl _) _).drew | exact HS.out _ ((Below.refl _ _).drew.alloc (by simp) _))
          (first | (go_at_call 78; refine (binary_16 b _ hb16).mono ?_; rintro e w1 ⟨rfl, rfl⟩))
        go_wp2
        go_ret
        have hzW : w.heap.size ≤ W0.heap.size := by have := bw.size; omega
        exact ⟨⟨_, [(bin b 16).extract 0 l ++ st16.extract l 16], rfl, StrRow.one W0.drew _ _ hzW, HL.out⟩, hb0.trans (((bw.trans (((Below.refl _ _).alloc (by omega) _).drew)).mono hz))⟩
      · have HN : Hid (blkS 1 ps = blkS 1 (ps.drop (j + 1))) := by
          show _ = _
          rw [H.out]
          show (if p.ty = 1 then _ else _) = _
          rw [if_neg hty]
        have hbe : (p.ty == 1) = false := by simpa using hty
        clear H hty
        go_wp2
        go_roundw
        case rel => exact ⟨j + 1, by go_num, by omega, hbel.alloc (by omega) _, HN⟩
        case measure => simp [intOf]; omega
    · have HN : Hid (blkS 1 ps = [List.replicate (wOf 1) 42]) := by show _ = _; rw [H.out, List.drop_of_length_le (by omega)]; rfl
      clear H ha
      go_wp2
      go_ret
      exact ⟨⟨_, [st16.extract 0 (wOf 1)], rfl, StrRow.one wr _ _ hz, by rw [HN.out]; rfl⟩, hb0.alloc hz _⟩
set_option maxHeartbeats 1000000 in
theorem blocks_2 (ps : List Pt) (ao : Option Addr) (cap : Nat) (w : World) (l5 : ps.length ≤ 5) (hP : ∀ j (h : j < ps.length), isP ps[j] = true) (ha : PartsIn w ao ps) :
    Calls Tryz.prog 77 #[.agg #[.slice ao ps.length cap], .int .i64 2] w fun e w' => BlkPost 2 ps w.heap.size e w' ∧ Below w.heap.size w w' := by
  have HP : Hid (∀ j (h : j < ps.length), isP ps[j] = true) := hP
  clear hP
  go_enter Tryz.func77, Tryz.ntmps77
  go_wp2
  go_loopw [7] (fun x wr => ∃ j : Nat, x = .int .i64 j ∧ j ≤ ps.length ∧ Below (w.heap.size + 1) (w.alloc (.cells #[.slice ao ps.length cap] 114)) wr ∧ Hid (blkS 2 ps = blkS 2 (ps.drop j))) (fun x _ => ps.length - (intOf x).toNat)
  case atStart => exact ⟨0, rfl, Nat.zero_le _, Below.refl _ _, rfl⟩
  case round =>
    obtain ⟨j, rfl, hj, hbel, H⟩ := hrel
    have hb0 := below_first' hbel
    have hz := hb0.size
    have k0 : wr.cell? ⟨w.heap.size, 0, none⟩ = some (.slice ao ps.length cap) := (hbel.cell (by simp)).trans (by simp [go_sem])
    have hz' := hbel.size
    simp only [World.size_alloc] at hz'
    have kz : w.heap.size < wr.heap.size := by omega
    by_cases hlt : j < ps.length
    · obtain ⟨bk, off, tao, tcap, rfl, c0, c1, c2, c3, hl, ht⟩ := ha.below hb0 j hlt
      have hp := HP.out j hlt
      have hd : ps.drop j = ps[j] :: ps.drop (j + 1) := List.drop_eq_getElem_cons hlt
      rw [hd] at H
      clear hd ha
      generalize ps[j] = p at *
      by_cases hty : p.ty = 2
      · have HB : Hid (blkS 2 ps = blkP p) := by
          show _ = _
          rw [H.out]
          show (if p.ty = 2 then _ else _) = _
          rw [if_pos hty]
        clear H
        have hkp : hasP p.ty = true := by rw [hty]; rfl
        have hbe : (p.ty == 2) = true := by simpa using hty
        obtain ⟨o1, o2, o3, o4, _⟩ := prefOK_bd (isP_pref hp hkp).2
        obtain ⟨ty, bt, ln, ts⟩ := p
        simp only [] at c0 c1 c2 c3 o1 o2 o3 o4 hkp hbe ht hl hty
        obtain ⟨b, rfl⟩ := Int.eq_ofNat_of_zero_le o3
        obtain ⟨l, rfl⟩ := Int.eq_ofNat_of_zero_le o1
        have hl16 : l ≤ 16 := by omega
        have hb16 : b ≤ 65535 := by omega
        have HL : Hid ([(bin b 16).extract 0 l ++ st16.extract l 16].map bl = blkS 2 ps) := by
          show _ = _
          rw [HB.out]
          unfold blkP
          simp only [hkp, if_true, List.map_cons, List.map_nil, bl_app, Int.toNat_natCast]
          have e1 : bl ((bin b 16).extract 0 l) = binL (b / 2 ^ (16 - l)) l := bl_pfx b l hl16
          rw [e1, (st16_behind l hl16).1]
        clear HB o1 o2 o3 o4 hty
        have s1 := bin_size b 16
        have s2 := pfxSz b l hl16
        have s3 := (st16_behind l hl16).2
        have i1 : (l : Int) ≤ 16 := by omega
        have i2 : (0 : Int) ≤ (l : Int) := by omega
        have f1 : l + (16 - l) ≤ 9223372036854775807 := by omega
        obtain ⟨W0, hW0⟩ : ∃ W0, W0 = wr.alloc (.cells #[.int .i64 ty, .int .i64 b, .int .i64 l, .slice tao ts.length tcap] 140) := ⟨_, rfl⟩
        have b1 : Below (wr.alloc (.cells #[.int .i64 ty, .int .i64 b, .int .i64 l, .slice tao ts.length tcap] 140)).heap.size (wr.alloc (.cells #[.int .i64 ty, .int .i64 b, .int .i64 l, .slice tao ts.length tcap] 140)) W0 := by rw [hW0]; exact Below.refl _ _
        obtain ⟨a0, a1, a2, a3, af, az⟩ := cells_of_below b1
        have bw := below_first b1
        have HS : Hid (∀ w' : World, Below W0.heap.size W0 w' → w'.cell? ⟨wr.heap.size, 1, none⟩ = some (.int .i64 b) ∧ w'.cell? ⟨wr.heap.size, 2, none⟩ = some (.int .i64 l) ∧ Below W0.heap.size W0 w') := fun w' hx =>
          ⟨(hx.cell az).trans a1, (hx.cell az).trans a2, hx⟩
        have HW : Hid (W0 = wr.alloc (.cells #[.int .i64 ty, .int .i64 b, .int .i64 l, .slice tao ts.length tcap] 140)) := hW0
        clear a0 a1 a2 a3 af b1 hW0
        go_wp2_with fail
        rw [← HW.out]
        clear c0 c1 c2 c3 HW
        go_region_held3 (fun w' => w'.cell? ⟨wr.heap.size, 1, none⟩ = some (.int .i64 b) ∧ w'.cell? ⟨wr.heap.size, 2, none⟩ = some (.int .i64 l) ∧ Below W0.heap.size W0 w')
          (first | exact HS.out _ (by assumption) | exact HS.out _ (Below.refl _ _).drew | exact HS.out _ ((Below.refl _ _).alloc (Nat.le_refl _) _).drew | exact HS.out _ ((Below.refl _ _).drew.alloc (by simp) _))
          (first | (go_at_call 78; refine (binary_16 b _ hb16).mono ?_; rintro e w1 ⟨rfl, rfl⟩))
        go_wp2
        go_ret
        have hzW : w.heap.size ≤ W0.heap.size := by have := bw.size; omega
        exact ⟨⟨_, [(bin b 16).extract 0 l ++ st16.extract l 16], rfl, StrRow.one W0.drew _ _ hzW, HL.out⟩, hb0.trans (((bw.trans (((Below.refl _ _).alloc (by omega) _).drew)).mono hz))⟩
      · have HN : Hid (blkS 2 ps = blkS 2 (ps.drop (j + 1))) := by
          show _ = _
          rw [H.out]
          show (if p.ty = 2 then _ else _) = _
          rw [if_neg hty]
        have hbe : (p.ty == 2) = false := by simpa using hty
        clear H hty
        go_wp2
        go_roundw
        case rel => exact ⟨j + 1, by go_num, by omega, hbel.alloc (by omega) _, HN⟩
        case measure => simp [intOf]; omega
    · have HN : Hid (blkS 2 ps = [List.replicate (wOf 2) 42]) := by show _ = _; rw [H.out, List.drop_of_length_le (by omega)]; rfl
      clear H ha
      go_wp2
      go_ret
      exact ⟨⟨_, [st16.extract 0 (wOf 2)], rfl, StrRow.one wr _ _ hz, by rw [HN.out]; rfl⟩, hb0.alloc hz _⟩
end Go.Proofs.YtgkiknfpcbcnnaaGreat
