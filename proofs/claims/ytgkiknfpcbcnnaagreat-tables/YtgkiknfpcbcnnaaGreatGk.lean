import Derived.Test.YtgkiknfpcbcnnaaGreatGi
import Derived.Test.YtgkiknfpcbcnnaaGreatGj
import Derived.Test.YtgkiknfpcbcnnaaGreatGc
namespace Go.Proofs.YtgkiknfpcbcnnaaGreat
open Go.RowKit
set_option maxRecDepth 20000
theorem term_any (t : Tm) (k v : Int) (w : World) (ht : isT k t = true) (hv : k = 5 → 0 ≤ v ∧ v ≤ 255) :
    Calls Tryz.prog 146 #[.int .i64 k, .agg #[.bool t.an, .bool t.wd, .int .i64 t.op, .int .i64 t.vl], .int .i64 v] w fun e w' => e = .returned (.bool (tmH k t v)) ∧ Below w.heap.size w w' := by
  obtain ⟨h0, h1, h2, h3, h4⟩ := isT_op k t ht
  unfold tmH
  by_cases hk : k = 5
  · subst hk
    rw [if_pos rfl]
    obtain ⟨v0, v1⟩ := hv rfl
    have h5 := h4 rfl
    obtain ⟨n, rfl⟩ := Int.eq_ofNat_of_zero_le v0
    obtain ⟨m, hm⟩ := Int.eq_ofNat_of_zero_le h2
    rw [hm]
    rw [h5, hm] at h3
    exact term_flags _ _ _ _ _ _ h0 (by unfold opM at h1; simpa using h1) (by unfold mxV at h3; simp at h3; omega) (by omega)
  · rw [if_neg hk]
    exact term_num _ _ _ _ _ _ _ (by simpa using hk) h0 (by unfold opM at h1; rw [if_neg hk] at h1; exact h1)
theorem term_b (t : Tm) (k v : Int) (w W0 : World) (ht : isT k t = true) (hv : k = 5 → 0 ≤ v ∧ v ≤ 255) (hb : Below W0.heap.size W0 w) :
    Calls Tryz.prog 146 #[.int .i64 k, .agg #[.bool t.an, .bool t.wd, .int .i64 t.op, .int .i64 t.vl], .int .i64 v] w fun e w' => e = .returned (.bool (tmH k t v)) ∧ Below W0.heap.size W0 w' :=
  (term_any t k v w ht hv).mono fun _ _ h => ⟨h.1, hb.trans (h.2.mono hb.size)⟩
def gS (k v : Int) : Bool → List Tm → Bool
  | _, [] => true
  | f, t :: r => if f || t.an then tmH k t v && gS k v false r else true
theorem gS_gR (k v : Int) : ∀ ts, gS k v false ts = gR k v ts := by
  intro ts
  induction ts with
  | nil => rfl
  | cons t r ih => simp only [gS, gR, ih, Bool.false_or]
set_option maxHeartbeats 1600000 in
theorem group_any (p : Pt) (i : Nat) (ao : Option Addr) (cap : Nat) (v : Int) (w : World) (hi : i < p.ts.length) (hlen : p.ts.length ≤ 8) (hall : allT p.ty true p.ts = true) (hv : p.ty = 5 → 0 ≤ v ∧ v ≤ 255) (ht : TermsIn w ao p.ts) :
    Calls Tryz.prog 139 #[.agg #[.int .i64 p.ty, .int .i64 p.bt, .int .i64 p.ln, .slice ao p.ts.length cap], .int .i64 i, .int .i64 v] w fun e w' => e = .returned (.bool (gS p.ty v true (p.ts.drop i))) ∧ Below w.heap.size w w' := by
  go_enter Tryz.func139, Tryz.ntmps139
  go_wp2
  go_loopw [7] (fun x wr => ∃ j : Nat, x = .int .i64 j ∧ i ≤ j ∧ j ≤ p.ts.length ∧ Below (w.alloc (.cells #[.int .i64 p.ty, .int .i64 p.bt, .int .i64 p.ln, .slice ao p.ts.length cap] 140)).heap.size (w.alloc (.cells #[.int .i64 p.ty, .int .i64 p.bt, .int .i64 p.ln, .slice ao p.ts.length cap] 140)) wr ∧ Hid (gS p.ty v true (p.ts.drop i) = gS p.ty v (j == i) (p.ts.drop j))) (fun x _ => p.ts.length - (intOf x).toNat)
  case atStart => exact ⟨i, rfl, Nat.le_refl _, by omega, Below.refl _ _, by show _ = _; simp⟩
  case round =>
    obtain ⟨j, rfl, hij, hj, hbel, H⟩ := hrel
    obtain ⟨a0, a1, a2, a3, af, az⟩ := cells_of_below hbel
    have hb0 := below_first hbel
    by_cases hlt : j < p.ts.length
    · obtain ⟨b, off, rfl, c0, c1, c2, c3⟩ := ht.below hb0 j hlt
      have hd : p.ts.drop j = p.ts[j] :: p.ts.drop (j + 1) := List.drop_eq_getElem_cons hlt
      have hT := allT_get _ _ _ hall j hlt
      rw [hd] at H
      clear hd ht hall
      generalize p.ts[j] = t at *
      have hlb : b < wr.heap.size := World.block_lt_of_cell? wr _ c0
      have hje : ((j : Int) == (i : Int)) = (j == i) := by rw [beq_cast]; by_cases hh : j = i <;> simp [hh]
      have HS : Hid (∀ w' : World, Below wr.heap.size wr w' → w'.cell? ⟨w.heap.size, 0, none⟩ = some (.int .i64 p.ty) ∧ w'.cell? ⟨w.heap.size, 3, none⟩ = some (.slice (some ⟨b, off, none⟩) p.ts.length cap) ∧ w'.cell? ⟨b, off + j * 4, none⟩ = some (.bool t.an) ∧ w'.cell? ⟨b, off + j * 4 + 1, none⟩ = some (.bool t.wd) ∧ w'.cell? ⟨b, off + j * 4 + 2, none⟩ = some (.int .i64 t.op) ∧ w'.cell? ⟨b, off + j * 4 + 3, none⟩ = some (.int .i64 t.vl) ∧ Below wr.heap.size wr w') := fun w' hb =>
        ⟨(hb.cell az).trans a0, (hb.cell az).trans a3, (hb.cell hlb).trans c0, (hb.cell hlb).trans c1, (hb.cell hlb).trans c2, (hb.cell hlb).trans c3, hb⟩
      have hz := hbel.size
      cases hg : ((j == i) || t.an)
      · have HF : Hid (gS p.ty v true (p.ts.drop i) = true) := by show _ = _; rw [H.out]; unfold gS; rw [hg]; rfl
        clear H
        have hn : (j == i) = false := by cases hx : (j == i) <;> simp_all
        have hn2 : t.an = false := by cases hx : t.an <;> simp_all
        rw [hn] at hje
        rw [hn2] at c0
        clear hg hn hn2 HS
        go_wp2
        go_ret
        exact ⟨by rw [HF.out]; rfl, hb0⟩
      · cases hr : tmH p.ty t v
        · have HF : Hid (gS p.ty v true (p.ts.drop i) = false) := by show _ = _; rw [H.out]; unfold gS; rw [hg, hr]; rfl
          clear H
          have hjc : ((j : Int) == (i : Int)) = true ∨ (((j : Int) == (i : Int)) = false ∧ t.an = true) := by rw [hje]; cases hx : (j == i) <;> simp_all
          clear hje hg
          rcases hjc with hje | ⟨hje, hn2⟩
          · go_wp2_with fail
            go_region_held3 (fun w' => w'.cell? ⟨w.heap.size, 0, none⟩ = some (.int .i64 p.ty) ∧ w'.cell? ⟨w.heap.size, 3, none⟩ = some (.slice (some ⟨b, off, none⟩) p.ts.length cap) ∧ w'.cell? ⟨b, off + j * 4, none⟩ = some (.bool t.an) ∧ w'.cell? ⟨b, off + j * 4 + 1, none⟩ = some (.bool t.wd) ∧ w'.cell? ⟨b, off + j * 4 + 2, none⟩ = some (.int .i64 t.op) ∧ w'.cell? ⟨b, off + j * 4 + 3, none⟩ = some (.int .i64 t.vl) ∧ Below wr.heap.size wr w')
              (first | exact HS.out _ (by assumption) | exact HS.out _ (Below.refl _ _).drew)
              (first | (go_at_call 146; refine (term_b _ _ _ _ wr hT hv (by go_split_ands; assumption)).mono ?_; rintro e w1 ⟨rfl, hb1⟩; rw [hr]))
            go_wp2
            go_ret
            exact ⟨by rw [HF.out]; rfl, hb0.trans (hb1.mono (by omega))⟩
          · obtain ⟨an, wd, op, vl⟩ := t
            simp only [] at c0 c1 c2 c3 hn2 HS
            subst hn2
            go_wp2_with fail
            go_region_held3 (fun w' => w'.cell? ⟨w.heap.size, 0, none⟩ = some (.int .i64 p.ty) ∧ w'.cell? ⟨w.heap.size, 3, none⟩ = some (.slice (some ⟨b, off, none⟩) p.ts.length cap) ∧ w'.cell? ⟨b, off + j * 4, none⟩ = some (.bool true) ∧ w'.cell? ⟨b, off + j * 4 + 1, none⟩ = some (.bool wd) ∧ w'.cell? ⟨b, off + j * 4 + 2, none⟩ = some (.int .i64 op) ∧ w'.cell? ⟨b, off + j * 4 + 3, none⟩ = some (.int .i64 vl) ∧ Below wr.heap.size wr w')
              (first | exact HS.out _ (by assumption) | exact HS.out _ (Below.refl _ _).drew)
              (first | (go_at_call 146; refine (term_b ⟨_, _, _, _⟩ _ _ _ wr hT hv (by go_split_ands; assumption)).mono ?_; rintro e w1 ⟨rfl, hb1⟩; rw [hr]))
            go_wp2
            go_ret
            exact ⟨by rw [HF.out]; rfl, hb0.trans (hb1.mono (by omega))⟩
        · have HN : Hid (gS p.ty v true (p.ts.drop i) = gS p.ty v (j + 1 == i) (p.ts.drop (j + 1))) := by
            show _ = _
            rw [H.out]
            have hx : (j + 1 == i) = false := beq_eq_false_iff_ne.2 (by omega)
            rw [hx]
            show (if (j == i) || t.an then tmH p.ty t v && gS p.ty v false (p.ts.drop (j + 1)) else true) = _
            rw [hg, hr]
            rfl
          clear H
          have hjc : ((j : Int) == (i : Int)) = true ∨ (((j : Int) == (i : Int)) = false ∧ t.an = true) := by rw [hje]; cases hx : (j == i) <;> simp_all
          clear hje hg
          rcases hjc with hje | ⟨hje, hn2⟩
          · go_wp2_with fail
            go_region_held3 (fun w' => w'.cell? ⟨w.heap.size, 0, none⟩ = some (.int .i64 p.ty) ∧ w'.cell? ⟨w.heap.size, 3, none⟩ = some (.slice (some ⟨b, off, none⟩) p.ts.length cap) ∧ w'.cell? ⟨b, off + j * 4, none⟩ = some (.bool t.an) ∧ w'.cell? ⟨b, off + j * 4 + 1, none⟩ = some (.bool t.wd) ∧ w'.cell? ⟨b, off + j * 4 + 2, none⟩ = some (.int .i64 t.op) ∧ w'.cell? ⟨b, off + j * 4 + 3, none⟩ = some (.int .i64 t.vl) ∧ Below wr.heap.size wr w')
              (first | exact HS.out _ (by assumption) | exact HS.out _ (Below.refl _ _).drew)
              (first | (go_at_call 146; refine (term_b _ _ _ _ wr hT hv (by go_split_ands; assumption)).mono ?_; rintro e w1 ⟨rfl, hb1⟩; rw [hr]))
            go_wp2
            go_roundw
            case rel => exact ⟨j + 1, by go_num, by omega, by omega, hbel.trans (hb1.mono hz), HN⟩
            case measure => simp [intOf]; omega
          · obtain ⟨an, wd, op, vl⟩ := t
            simp only [] at c0 c1 c2 c3 hn2 HS
            subst hn2
            go_wp2_with fail
            go_region_held3 (fun w' => w'.cell? ⟨w.heap.size, 0, none⟩ = some (.int .i64 p.ty) ∧ w'.cell? ⟨w.heap.size, 3, none⟩ = some (.slice (some ⟨b, off, none⟩) p.ts.length cap) ∧ w'.cell? ⟨b, off + j * 4, none⟩ = some (.bool true) ∧ w'.cell? ⟨b, off + j * 4 + 1, none⟩ = some (.bool wd) ∧ w'.cell? ⟨b, off + j * 4 + 2, none⟩ = some (.int .i64 op) ∧ w'.cell? ⟨b, off + j * 4 + 3, none⟩ = some (.int .i64 vl) ∧ Below wr.heap.size wr w')
              (first | exact HS.out _ (by assumption) | exact HS.out _ (Below.refl _ _).drew)
              (first | (go_at_call 146; refine (term_b ⟨_, _, _, _⟩ _ _ _ wr hT hv (by go_split_ands; assumption)).mono ?_; rintro e w1 ⟨rfl, hb1⟩; rw [hr]))
            go_wp2
            go_roundw
            case rel => exact ⟨j + 1, by go_num, by omega, by omega, hbel.trans (hb1.mono hz), HN⟩
            case measure => simp [intOf]; omega
    · have HN : Hid (gS p.ty v true (p.ts.drop i) = true) := by show _ = _; rw [H.out, List.drop_of_length_le (by omega)]; rfl
      clear H ht
      go_wp2
      go_ret
      exact ⟨by rw [HN.out]; rfl, hb0⟩
end Go.Proofs.YtgkiknfpcbcnnaaGreat
namespace Go.Proofs.YtgkiknfpcbcnnaaGreat
open Go.RowKit
set_option maxRecDepth 20000
set_option maxHeartbeats 800000 in
theorem holds_any (p : Pt) (ao : Option Addr) (cap : Nat) (v : Int) (w : World) (hlen : p.ts.length ≤ 8) (hall : allT p.ty true p.ts = true) (hv : p.ty = 5 → 0 ≤ v ∧ v ≤ 255) (ht : TermsIn w ao p.ts) :
    Calls Tryz.prog 131 #[.agg #[.int .i64 p.ty, .int .i64 p.bt, .int .i64 p.ln, .slice ao p.ts.length cap], .int .i64 v] w fun e w' => e = .returned (.bool (gH p.ty v p.ts)) ∧ Below w.heap.size w w' := by
  go_enter Tryz.func131, Tryz.ntmps131
  go_wp2
  go_loopw [5] (fun x wr => ∃ j : Nat, x = .int .i64 j ∧ j ≤ p.ts.length ∧ Below (w.alloc (.cells #[.int .i64 p.ty, .int .i64 p.bt, .int .i64 p.ln, .slice ao p.ts.length cap] 140)).heap.size (w.alloc (.cells #[.int .i64 p.ty, .int .i64 p.bt, .int .i64 p.ln, .slice ao p.ts.length cap] 140)) wr ∧ Hid (gH p.ty v p.ts = gH p.ty v (p.ts.drop j))) (fun x _ => p.ts.length - (intOf x).toNat)
  case atStart => exact ⟨0, rfl, Nat.zero_le _, Below.refl _ _, rfl⟩
  case round =>
    obtain ⟨j, rfl, hj, hbel, H⟩ := hrel
    obtain ⟨a0, a1, a2, a3, af, az⟩ := cells_of_below hbel
    have hb0 := below_first hbel
    by_cases hlt : j < p.ts.length
    · have ht1 := ht.below hb0
      obtain ⟨b, off, rfl, c0, c1, c2, c3⟩ := ht1 j hlt
      have hd : p.ts.drop j = p.ts[j] :: p.ts.drop (j + 1) := List.drop_eq_getElem_cons hlt
      have hz := hbel.size
      cases ha : p.ts[j].an
      · have HG : Hid (gH p.ty v p.ts = (gS p.ty v true (p.ts.drop j) || gH p.ty v (p.ts.drop (j + 1)))) := by
          show _ = _
          rw [H.out, hd]
          show (if p.ts[j].an then _ else _) = _
          rw [ha]
          simp only [Bool.false_eq_true, if_false, gS, Bool.true_or, if_true, gS_gR]
        clear H hd
        rw [ha] at c0
        clear ha c1 c2 c3
        cases hg : gS p.ty v true (p.ts.drop j)
        · have HN : Hid (gH p.ty v p.ts = gH p.ty v (p.ts.drop (j + 1))) := by show _ = _; rw [HG.out, hg]; rfl
          clear HG
          go_wp2_with (go_at_call 139; refine (group_any p j _ _ _ _ hlt hlen hall hv ht1).mono ?_; rintro e w1 ⟨rfl, hb1⟩; rw [hg])
          go_roundw
          case rel => exact ⟨j + 1, by go_num, by omega, hbel.trans (hb1.mono hz), HN⟩
          case measure => simp [intOf]; omega
        · have HN : Hid (gH p.ty v p.ts = true) := by show _ = _; rw [HG.out, hg]; rfl
          clear HG
          go_wp2_with (go_at_call 139; refine (group_any p j _ _ _ _ hlt hlen hall hv ht1).mono ?_; rintro e w1 ⟨rfl, hb1⟩; rw [hg])
          go_ret
          exact ⟨by rw [HN.out]; rfl, hb0.trans (hb1.mono (by omega))⟩
      · have HN : Hid (gH p.ty v p.ts = gH p.ty v (p.ts.drop (j + 1))) := by
          show _ = _
          rw [H.out, hd]
          show (if p.ts[j].an then _ else _) = _
          rw [ha]
          rfl
        clear H hd
        rw [ha] at c0
        clear ha c1 c2 c3 ht ht1
        go_wp2
        go_roundw
        case rel => exact ⟨j + 1, by go_num, by omega, hbel, HN⟩
        case measure => simp [intOf]; omega
    · have HN : Hid (gH p.ty v p.ts = false) := by show _ = _; rw [H.out, List.drop_of_length_le (by omega)]; rfl
      clear H ht
      go_wp2
      go_ret
      exact ⟨by rw [HN.out]; rfl, hb0⟩
def dgL (x : Nat) : UInt8 := if x % 2 = 1 then 49 else 48
def binL (v : Nat) : Nat → List UInt8
  | 0 => []
  | n + 1 => dgL (v / 2 ^ n) :: binL v n
theorem bl_bin (v : Nat) : ∀ n, bl (bin v n) = binL v n := by
  intro n
  induction n with
  | zero => rfl
  | succ n ih =>
    simp only [bin, binL, bl_app, ih]
    unfold dg dgL
    split <;> rfl
theorem binL_len (v : Nat) : ∀ n, (binL v n).length = n := by
  intro n
  induction n with
  | zero => rfl
  | succ n ih => simp [binL, ih]
theorem binL_take (v : Nat) : ∀ (n l : Nat), l ≤ n → (binL v n).take l = binL (v / 2 ^ (n - l)) l := by
  intro n
  induction n with
  | zero => intro l hl; obtain rfl : l = 0 := by omega
            rfl
  | succ n ih =>
    intro l hl
    cases l with
    | zero => rfl
    | succ l =>
      simp only [binL, List.take_succ_cons]
      rw [ih l (by omega)]
      have e1 : n + 1 - (l + 1) = n - l := by omega
      have e2 : v / 2 ^ (n - l) / 2 ^ l = v / 2 ^ n := by rw [Nat.div_div_eq_div_mul, ← Nat.pow_add]; congr 2; omega
      rw [e1, e2]
def pfx (v l : Nat) : ByteArray := (bin v 16).extract 0 l
theorem bl_pfx (v l : Nat) (h : l ≤ 16) : bl (pfx v l) = binL (v / 2 ^ (16 - l)) l := by
  have : bl (pfx v l) = (bl (bin v 16)).take l := by
    unfold pfx bl
    rw [ByteArray.data_extract]
    simp
  rw [this, bl_bin, binL_take v 16 l h]
theorem shr_lt (v l : Nat) (h : l ≤ 16) (hv : v ≤ 65535) : v / 2 ^ (16 - l) < 2 ^ l := by
  rw [Nat.div_lt_iff_lt_mul (Nat.two_pow_pos _), ← Nat.pow_add]
  have : l + (16 - l) = 16 := by omega
  rw [this]
  omega
theorem binary_16 (v : Nat) (w : World) (hv : v ≤ 65535) :
    Calls Tryz.prog 78 #[.int .i64 v, .int .i64 16] w fun e w' => e = .returned (.string (bin v 16)) ∧ w = w' := binary_any v 16 w hv (by omega)
end Go.Proofs.YtgkiknfpcbcnnaaGreat
