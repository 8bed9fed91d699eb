import Derived.Test.YtgkiknfpcbcnnaaGreatGac
import Derived.Test.YtgkiknfpcbcnnaaGreatGae
namespace Go.Proofs.YtgkiknfpcbcnnaaGreat
open Go.RowKit
set_option maxRecDepth 20000
theorem rtIn_of {w : World} {B : Nat} {e : TypeId} {ao : Option Addr} {n c : Nat} {l : List Rt} (h : w.ownsRow B e 4 (.slice ao n c) l.length (rtCs l)) : RtIn w ao l := by
  intro i hi
  rcases h.2 with ⟨_, h0⟩ | ⟨g, c', cur, hv, hg, hh, _⟩
  · omega
  · simp only [Value.slice.injEq] at hv
    obtain ⟨e1, e2, e3, e4⟩ := rtCs_get l i hi
    have k := fun j u hh => h.cells (g := g) (by rw [hv.1]; rfl) j u hh
    have c0 := k _ _ e1
    have c1 := k _ _ e2
    have c2 := k _ _ e3
    have c3 := k _ _ e4
    rw [add0] at c0 c1 c2 c3
    exact ⟨g, 0, hv.1, lt_of_block hh, c0, by rw [← Nat.add_assoc] at c1; exact c1, by rw [← Nat.add_assoc] at c2; exact c2, by rw [← Nat.add_assoc] at c3; exact c3⟩
def ClIn (w : World) (ao : Option Addr) (l : List Rl) : Prop :=
  ∀ i (h : i < l.length), ∃ b off, ao = some ⟨b, off, none⟩ ∧ b < w.heap.size ∧ w.cell? ⟨b, off + i * 3, none⟩ = some (.int .i64 l[i].pe) ∧ w.cell? ⟨b, off + i * 3 + 1, none⟩ = some (.string l[i].tx) ∧
    w.cell? ⟨b, off + i * 3 + 2, none⟩ = some (.int .i64 l[i].ac)
theorem heap_new_at (w : World) (o : Obj) (k : Nat) (hk : w.heap.size = k) : (w.alloc o).heap[k]? = some o := by
  subst hk; exact heap_alloc_new w o
theorem ClIn.below {w w' : World} {ao : Option Addr} {l : List Rl} (h : ClIn w ao l) (hb : Below w.heap.size w w') : ClIn w' ao l := by
  intro i hi
  obtain ⟨b, off, e, hlt, c0, c1, c2⟩ := h i hi
  exact ⟨b, off, e, Nat.lt_of_lt_of_le hlt hb.size, (hb.cell hlt).trans c0, (hb.cell hlt).trans c1, (hb.cell hlt).trans c2⟩
theorem clCs_get : ∀ (l : List Rl) (i : Nat) (h : i < l.length), (clCs l)[i * 3]? = some (.int .i64 l[i].pe) ∧ (clCs l)[i * 3 + 1]? = some (.string l[i].tx) ∧ (clCs l)[i * 3 + 2]? = some (.int .i64 l[i].ac) := by
  intro l
  induction l with
  | nil => intro i h; simp at h
  | cons a l ih =>
    intro i h
    have e : clCs (a :: l) = .int .i64 a.pe :: .string a.tx :: .int .i64 a.ac :: clCs l := rfl
    rw [e]
    cases i with
    | zero => exact ⟨rfl, rfl, rfl⟩
    | succ i =>
      have e1 : (i + 1) * 3 = i * 3 + 1 + 1 + 1 := by omega
      rw [e1]
      simp only [List.getElem?_cons_succ, List.getElem_cons_succ]
      exact ih i (by simpa using h)
theorem ClIn.of {w : World} {B : Nat} {e : TypeId} {ao : Option Addr} {n c : Nat} {l : List Rl} (h : w.ownsRow B e 3 (.slice ao n c) l.length (clCs l)) : ClIn w ao l := by
  intro i hi
  rcases h.2 with ⟨_, h0⟩ | ⟨g, c', cur, hv, hg, hh, _⟩
  · omega
  · simp only [Value.slice.injEq] at hv
    obtain ⟨e1, e2, e3⟩ := clCs_get l i hi
    have k := fun j u hh => h.cells (g := g) (by rw [hv.1]; rfl) j u hh
    have c0 := k _ _ e1
    have c1 := k _ _ e2
    have c2 := k _ _ e3
    rw [add0] at c0 c1 c2
    exact ⟨g, 0, hv.1, lt_of_block hh, c0, by rw [← Nat.add_assoc] at c1; exact c1, by rw [← Nat.add_assoc] at c2; exact c2⟩
theorem infoLRt : (Tryz.prog.info? 100).map (fun i => (i.zero, i.size, i.bytes)) = some (some (.agg #[.int .i64 0, .int .i64 0, .int .i64 0, .int .i64 0]), 4, 32) := by kernel_rfl
theorem infoLCl : (Tryz.prog.info? 110).map (fun i => (i.zero, i.size, i.bytes)) = some (some (.agg #[.int .i64 0, .string ⟨#[]⟩, .int .i64 0]), 3, 32) := by kernel_rfl
theorem clC_one (r : Rl) : ∀ u ∈ clC r, u.oneCell' = true := by
  intro u hu
  simp only [clC, List.mem_cons, List.not_mem_nil, or_false] at hu
  rcases hu with rfl | rfl | rfl <;> rfl
def LRt (w : World) (B : Nat) (v : Value) (l : List Rt) : Prop := w.ownsRow B 100 4 v l.length (rtCs l)
theorem LRt.nil (w : World) (B : Nat) : LRt w B (.slice none 0 0) [] := World.ownsRow_nil _ _ _ _
theorem LRt.snoc {w : World} {B : Nat} {v : Value} {l : List Rt} {r : Rt} (h : w.ownsRow B 100 4 v (l.length + 1) (rtCs l ++ rtC r)) : LRt w B v (l ++ [r]) := by
  have e : rtCs (l ++ [r]) = rtCs l ++ rtC r := by simp [rtCs]
  unfold LRt; rw [e, List.length_append]; exact h
def LCl (w : World) (B : Nat) (v : Value) (l : List Rl) : Prop := w.ownsRow B 110 3 v l.length (clCs l)
theorem LCl.nil (w : World) (B : Nat) : LCl w B (.slice none 0 0) [] := World.ownsRow_nil _ _ _ _
theorem LCl.snoc {w : World} {B : Nat} {v : Value} {l : List Rl} {r : Rl} (h : w.ownsRow B 110 3 v (l.length + 1) (clCs l ++ clC r)) : LCl w B v (l ++ [r]) := by
  have e : clCs (l ++ [r]) = clCs l ++ clC r := by simp [clCs]
  unfold LCl; rw [e, List.length_append]; exact h
theorem gfilter_take {α : Type} (f : α → Bool) (l : List α) (i : Nat) (h : i < l.length) : (l.take (i + 1)).filter f = (l.take i).filter f ++ (if f l[i] then [l[i]] else []) := by
  rw [List.take_add_one, List.getElem?_eq_getElem h, List.filter_append]
  simp only [Option.toList, List.filter_cons, List.filter_nil]
theorem erase_take {α : Type} (l : List α) (i k : Nat) (h : i < l.length) : (l.take (i + 1)).eraseIdx k = (l.take i).eraseIdx k ++ (if i = k then [] else [l[i]]) := by
  rw [List.take_add_one, List.getElem?_eq_getElem h]
  have hl : (l.take i).length = i := by rw [List.length_take]; omega
  simp only [Option.toList]
  by_cases hk : k < i
  · rw [List.eraseIdx_append_of_lt_length (by omega), if_neg (by omega)]
  · rw [List.eraseIdx_append_of_length_le (by omega), hl, List.eraseIdx_of_length_le (l := l.take i) (by omega)]
    by_cases he : i = k
    · subst he; simp
    · rw [if_neg he]
      obtain ⟨d, hd⟩ : ∃ d, k - i = d + 1 := ⟨k - i - 1, by omega⟩
      rw [hd]
      simp
theorem find_drop {α : Type} (f : α → Bool) (l : List α) (i : Nat) (h : i < l.length) : (l.drop i).findIdx f = if f l[i] then 0 else (l.drop (i + 1)).findIdx f + 1 := by
  rw [List.drop_eq_getElem_cons h, List.findIdx_cons]
  cases f l[i] <;> rfl
set_option maxHeartbeats 1600000 in
theorem placeOfRoute_any (l : List Rt) (ao : Option Addr) (cap : Nat) (pe bt ln : Int) (w : World) (hin : RtIn w ao l) (h24 : l.length ≤ 24) :
    Calls Tryz.prog 43 #[.slice ao l.length cap, .int .i64 pe, .agg #[.int .i64 bt, .int .i64 ln]] w fun e w' => e = .returned (.int .i64 (plR l pe bt ln : Nat)) ∧ Below w.heap.size w w' := by
  have HI : Hid (RtIn w ao l) := hin
  clear hin
  obtain ⟨R, hR⟩ : ∃ R, R = plR l pe bt ln := ⟨_, rfl⟩
  have HR : Hid (R = plR l pe bt ln) := hR
  rw [← hR]; clear hR
  go_enter Tryz.func43, Tryz.ntmps43
  go_wp2_with fail
  go_loopw [11] (fun x wr => ∃ i : Nat, x = .int .i64 i ∧ i ≤ l.length ∧ Hid (R = i + plR (l.drop i) pe bt ln) ∧ Below (w.alloc (.cells #[.int .i64 bt, .int .i64 ln] 39)).heap.size (w.alloc (.cells #[.int .i64 bt, .int .i64 ln] 39)) wr) (fun x _ => l.length - (intOf x).toNat)
  case atStart => exact ⟨0, rfl, Nat.zero_le _, by show _ = _; rw [HR.out]; simp, Below.refl _ _⟩
  case round =>
    obtain ⟨i, rfl, hil, H, hbel⟩ := hrel
    obtain ⟨a0, a1, az⟩ := cells_pr hbel
    have hb0 := below_first hbel
    have hz := hbel.size
    simp only [World.size_alloc] at hz
    by_cases hlt : i < l.length
    · obtain ⟨rk, ro, rfl, bz2, c0, c1, c2, c3⟩ := HI.out.below hb0 i hlt
      have HFT : Hid (plR (l.drop i) pe bt ln = if !rtNe pe bt ln l[i] then 0 else plR (l.drop (i + 1)) pe bt ln + 1) := find_drop _ l i hlt
      generalize l[i] = r at *
      obtain ⟨rpe, rbt, rln, rpa⟩ := r
      simp only [] at c0 c1 c2 c3
      have hgo : ¬ (rpe = pe ∧ rbt = bt ∧ rln = ln) → Hid (R = (i + 1) + plR (l.drop (i + 1)) pe bt ln) := fun hne => by
        show _ = _
        rw [H.out, HFT.out, (rtNe_iff pe bt ln ⟨rpe, rbt, rln, rpa⟩).2 hne]
        simp
        omega
      have hbA := hbel.alloc (by simp only [World.size_alloc]; omega) (.cells #[.int .i64 rpe, .int .i64 rbt, .int .i64 rln, .int .i64 rpa] 100)
      by_cases e1 : rpe = pe
      · subst e1
        have q0 : (rpe == rpe) = true := by simp
        by_cases e2 : rbt = bt ∧ rln = ln
        · obtain ⟨rfl, rfl⟩ := e2
          have HF : Hid (R = i) := by
            show _ = _
            have hno : rtNe rpe rbt rln ⟨rpe, rbt, rln, rpa⟩ = false := by
              cases hh : rtNe rpe rbt rln ⟨rpe, rbt, rln, rpa⟩
              · rfl
              · exact absurd ⟨rfl, rfl, rfl⟩ ((rtNe_iff _ _ _ _).1 hh)
            rw [H.out, HFT.out, hno]
            rfl
          clear H HFT hgo
          go_wp2_with fail
          go_ret
          exact ⟨by rw [HF.out]; rfl, below_first hbA⟩
        · have HN := hgo (fun h => e2 h.2)
          have q : (rbt == bt) = false ∨ (rln == ln) = false := by
            by_cases x : rbt = bt
            · right; simp; exact fun y => e2 ⟨x, y⟩
            · left; simpa using x
          clear H HFT hgo e2
          rcases q with q | q
          all_goals
            go_wp2_with fail
            go_roundw
            case rel => exact ⟨i + 1, by go_num, by omega, HN, hbA⟩
            case measure => simp [intOf]; omega
      · have HN := hgo (fun h => e1 h.1)
        have q0 : (rpe == pe) = false := by simpa using e1
        clear H HFT hgo e1
        go_wp2_with fail
        go_roundw
        case rel => exact ⟨i + 1, by go_num, by omega, HN, hbA⟩
        case measure => simp [intOf]; omega
    · have HF : Hid (R = l.length) := by
        show _ = _
        rw [H.out, List.drop_of_length_le (by omega)]
        show i + 0 = _
        omega
      clear H
      go_wp2_with fail
      go_ret
      exact ⟨by rw [HF.out]; rfl, hb0⟩
set_option maxHeartbeats 1600000 in
theorem placeOfClaim_any (l : List Rl) (ao : Option Addr) (cap : Nat) (pe : Int) (tx : ByteArray) (w : World) (hin : ClIn w ao l) (h24 : l.length ≤ 24) :
    Calls Tryz.prog 51 #[.slice ao l.length cap, .int .i64 pe, .string tx] w fun e w' => e = .returned (.int .i64 (plC l pe tx : Nat)) ∧ Below w.heap.size w w' := by
  have HI : Hid (ClIn w ao l) := hin
  clear hin
  obtain ⟨R, hR⟩ : ∃ R, R = plC l pe tx := ⟨_, rfl⟩
  have HR : Hid (R = plC l pe tx) := hR
  rw [← hR]; clear hR
  go_enter Tryz.func51, Tryz.ntmps51
  go_wp2_with fail
  go_loopw [11] (fun x wr => ∃ i : Nat, x = .int .i64 i ∧ i ≤ l.length ∧ Hid (R = i + plC (l.drop i) pe tx) ∧ Below w.heap.size w wr) (fun x _ => l.length - (intOf x).toNat)
  case atStart => exact ⟨0, rfl, Nat.zero_le _, by show _ = _; rw [HR.out]; simp, Below.refl _ _⟩
  case round =>
    obtain ⟨i, rfl, hil, H, hbel⟩ := hrel
    have hz := hbel.size
    by_cases hlt : i < l.length
    · obtain ⟨rk, ro, rfl, bz2, c0, c1, c2⟩ := HI.out.below hbel i hlt
      have HFT : Hid (plC (l.drop i) pe tx = if !rlNe pe tx l[i] then 0 else plC (l.drop (i + 1)) pe tx + 1) := find_drop _ l i hlt
      generalize l[i] = r at *
      obtain ⟨rtx, rpe, rac⟩ := r
      simp only [] at c0 c1 c2
      have hgo : ¬ (rpe = pe ∧ rtx = tx) → Hid (R = (i + 1) + plC (l.drop (i + 1)) pe tx) := fun hne => by
        show _ = _
        rw [H.out, HFT.out, (rlNe_iff pe tx ⟨rtx, rpe, rac⟩).2 hne]
        simp
        omega
      have hbA := hbel.alloc hz (.cells #[.int .i64 rpe, .string rtx, .int .i64 rac] 110)
      by_cases e1 : rpe = pe
      · subst e1
        have q0 : (rpe == rpe) = true := by simp
        by_cases e2 : rtx = tx
        · subst e2
          have HF : Hid (R = i) := by
            show _ = _
            have hno : rlNe rpe rtx ⟨rtx, rpe, rac⟩ = false := by
              cases hh : rlNe rpe rtx ⟨rtx, rpe, rac⟩
              · rfl
              · exact absurd ⟨rfl, rfl⟩ ((rlNe_iff _ _ _).1 hh)
            rw [H.out, HFT.out, hno]
            rfl
          clear H HFT hgo
          go_wp2_with fail
          go_ret
          exact ⟨by rw [HF.out]; rfl, hbA⟩
        · have HN := hgo (fun h => e2 h.2)
          have q := text_ne e2
          clear H HFT hgo e2
          go_wp2_with fail
          go_roundw
          case rel => exact ⟨i + 1, by go_num, by omega, HN, hbA⟩
          case measure => simp [intOf]; omega
      · have HN := hgo (fun h => e1 h.1)
        have q0 : (rpe == pe) = false := by simpa using e1
        clear H HFT hgo e1
        go_wp2_with fail
        go_roundw
        case rel => exact ⟨i + 1, by go_num, by omega, HN, hbA⟩
        case measure => simp [intOf]; omega
    · have HF : Hid (R = l.length) := by
        show _ = _
        rw [H.out, List.drop_of_length_le (by omega)]
        show i + 0 = _
        omega
      clear H
      go_wp2_with fail
      go_ret
      exact ⟨by rw [HF.out]; rfl, hbel⟩
set_option maxHeartbeats 1600000 in
theorem routesWithout_any (l : List Rt) (ao : Option Addr) (cap : Nat) (k : Nat) (w : World) (hin : RtIn w ao l) (h24 : l.length ≤ 24) :
    Calls Tryz.prog 49 #[.slice ao l.length cap, .int .i64 (k : Int)] w fun e w' => (∃ v, e = .returned v ∧ LRt w' w.heap.size v (l.eraseIdx k)) ∧ Below w.heap.size w w' := by
  obtain ⟨i0, hi, hz0, hz1, hz2⟩ := info_parts infoLRt
  have HI : Hid (RtIn w ao l) := hin
  clear hin
  go_enter Tryz.func49, Tryz.ntmps49
  go_wp2_with fail
  go_loopw [5, 10] (fun v x wr => ∃ (i : Nat) (T : List Rt), x = .int .i64 i ∧ i ≤ l.length ∧ LRt wr w.heap.size v T ∧ Hid (T = (l.take i).eraseIdx k) ∧ Below w.heap.size w wr) (fun _ x _ => l.length - (intOf x).toNat)
  case atStart => exact ⟨0, [], rfl, Nat.zero_le _, LRt.nil _ _, by show _ = _; simp, Below.refl _ _⟩
  case round =>
    obtain ⟨i, T, rfl, hil, hrow, HT, hbel⟩ := hrel
    obtain ⟨oo, oc, rfl⟩ := ownsRow_shape hrow
    have hz := hbel.size
    have hTl : T.length ≤ 24 := by
      rw [HT.out]
      refine Nat.le_trans (List.eraseIdx_sublist _ _).length_le ?_
      rw [List.length_take]; omega
    by_cases hlt : i < l.length
    · obtain ⟨rk, ro, rfl, bz2, c0, c1, c2, c3⟩ := HI.out.below hbel i hlt
      have HFT : Hid ((l.take (i + 1)).eraseIdx k = (l.take i).eraseIdx k ++ (if i = k then [] else [l[i]])) := erase_take l i k hlt
      generalize l[i] = r at *
      obtain ⟨rpe, rbt, rln, rpa⟩ := r
      simp only [] at c0 c1 c2 c3
      by_cases e1 : i = k
      · have HN : Hid (T = (l.take (i + 1)).eraseIdx k) := by
          show _ = _
          rw [HFT.out, ← HT.out]
          simp [e1]
        have q1 : ((i : Int) != (k : Int)) = false := by simp; omega
        clear HFT HT e1
        go_wp2_with fail
        go_roundw
        case rel => exact ⟨i + 1, T, by go_num, by omega, ownsRow_below hrow (below_alloc _ _), HN, hbel.alloc hz _⟩
        case measure => simp [intOf]; omega
      · have HN : Hid (T ++ [⟨rpe, rbt, rln, rpa⟩] = (l.take (i + 1)).eraseIdx k) := by
          show _ = _
          rw [HFT.out, ← HT.out]
          simp [e1]
        have q1 : ((i : Int) != (k : Int)) = true := by simp; omega
        clear HFT HT e1
        have hbA := hbel.alloc hz (.cells #[.int .i64 rpe, .int .i64 rbt, .int .i64 rln, .int .i64 rpa] 100)
        have hrA := ownsRow_below hrow (below_alloc wr (.cells #[.int .i64 rpe, .int .i64 rbt, .int .i64 rln, .int .i64 rpa] 100))
        go_wp2_with (at_builtin; refine wpList_append_own _ rfl _ _ 70 rfl w.heap.size 100 i0 _ 4 32 Tryz.underlying70 hi hz0 hz1 hz2 rfl (by decide) (.slice oo T.length oc) T.length (rtCs T) rfl (hrA.alloc _) ⟨wr.heap.size + 1, 0, none⟩ 1 1 (rtC ⟨rpe, rbt, rln, rpa⟩) rfl rfl (World.news_of_block (heap_new_at (wr.alloc _) _ _ (by simp))) (rtC_one _) (by unfold maxLen; omega) (by omega) (by simp; omega) ?_; intro v' w4 hown hgrow _; obtain ⟨ao', cap', rfl⟩ := ownsRow_shape hown)
        go_roundw
        case rel => exact ⟨i + 1, _, by go_num, by omega, LRt.snoc hown, HN, (hbA.alloc (by simp; omega) _).grown hgrow (by simp; omega) (fun k hk => by have := (World.ownsRow.lt hrA k hk).1; simp; omega)⟩
        case measure => simp [intOf]; omega
    · have HF : Hid (T = l.eraseIdx k) := by show _ = _; rw [HT.out, List.take_of_length_le (by omega)]
      clear HT
      go_wp2_with fail
      go_ret
      exact ⟨⟨_, rfl, by rw [← HF.out]; exact hrow⟩, hbel⟩
set_option maxHeartbeats 1600000 in
theorem claimsWithout_any (l : List Rl) (ao : Option Addr) (cap : Nat) (k : Nat) (w : World) (hin : ClIn w ao l) (h24 : l.length ≤ 24) :
    Calls Tryz.prog 57 #[.slice ao l.length cap, .int .i64 (k : Int)] w fun e w' => (∃ v, e = .returned v ∧ LCl w' w.heap.size v (l.eraseIdx k)) ∧ Below w.heap.size w w' := by
  obtain ⟨i0, hi, hz0, hz1, hz2⟩ := info_parts infoLCl
  have HI : Hid (ClIn w ao l) := hin
  clear hin
  go_enter Tryz.func57, Tryz.ntmps57
  go_wp2_with fail
  go_loopw [5, 10] (fun v x wr => ∃ (i : Nat) (T : List Rl), x = .int .i64 i ∧ i ≤ l.length ∧ LCl wr w.heap.size v T ∧ Hid (T = (l.take i).eraseIdx k) ∧ Below w.heap.size w wr) (fun _ x _ => l.length - (intOf x).toNat)
  case atStart => exact ⟨0, [], rfl, Nat.zero_le _, LCl.nil _ _, by show _ = _; simp, Below.refl _ _⟩
  case round =>
    obtain ⟨i, T, rfl, hil, hrow, HT, hbel⟩ := hrel
    obtain ⟨oo, oc, rfl⟩ := ownsRow_shape hrow
    have hz := hbel.size
    have hTl : T.length ≤ 24 := by
      rw [HT.out]
      refine Nat.le_trans (List.eraseIdx_sublist _ _).length_le ?_
      rw [List.length_take]; omega
    by_cases hlt : i < l.length
    · obtain ⟨rk, ro, rfl, bz2, c0, c1, c2⟩ := HI.out.below hbel i hlt
      have HFT : Hid ((l.take (i + 1)).eraseIdx k = (l.take i).eraseIdx k ++ (if i = k then [] else [l[i]])) := erase_take l i k hlt
      generalize l[i] = r at *
      obtain ⟨rtx, rpe, rac⟩ := r
      simp only [] at c0 c1 c2
      by_cases e1 : i = k
      · have HN : Hid (T = (l.take (i + 1)).eraseIdx k) := by
          show _ = _
          rw [HFT.out, ← HT.out]
          simp [e1]
        have q1 : ((i : Int) != (k : Int)) = false := by simp; omega
        clear HFT HT e1
        go_wp2_with fail
        go_roundw
        case rel => exact ⟨i + 1, T, by go_num, by omega, ownsRow_below hrow (below_alloc _ _), HN, hbel.alloc hz _⟩
        case measure => simp [intOf]; omega
      · have HN : Hid (T ++ [⟨rtx, rpe, rac⟩] = (l.take (i + 1)).eraseIdx k) := by
          show _ = _
          rw [HFT.out, ← HT.out]
          simp [e1]
        have q1 : ((i : Int) != (k : Int)) = true := by simp; omega
        clear HFT HT e1
        have hbA := hbel.alloc hz (.cells #[.int .i64 rpe, .string rtx, .int .i64 rac] 110)
        have hrA := ownsRow_below hrow (below_alloc wr (.cells #[.int .i64 rpe, .string rtx, .int .i64 rac] 110))
        go_wp2_with (at_builtin; refine wpList_append_own _ rfl _ _ 71 rfl w.heap.size 110 i0 _ 3 32 Tryz.underlying71 hi hz0 hz1 hz2 rfl (by decide) (.slice oo T.length oc) T.length (clCs T) rfl (hrA.alloc _) ⟨wr.heap.size + 1, 0, none⟩ 1 1 (clC ⟨rtx, rpe, rac⟩) rfl rfl (World.news_of_block (heap_new_at (wr.alloc _) _ _ (by simp))) (clC_one _) (by unfold maxLen; omega) (by omega) (by simp; omega) ?_; intro v' w4 hown hgrow _; obtain ⟨ao', cap', rfl⟩ := ownsRow_shape hown)
        go_roundw
        case rel => exact ⟨i + 1, _, by go_num, by omega, LCl.snoc hown, HN, (hbA.alloc (by simp; omega) _).grown hgrow (by simp; omega) (fun k hk => by have := (World.ownsRow.lt hrA k hk).1; simp; omega)⟩
        case measure => simp [intOf]; omega
    · have HF : Hid (T = l.eraseIdx k) := by show _ = _; rw [HT.out, List.take_of_length_le (by omega)]
      clear HT
      go_wp2_with fail
      go_ret
      exact ⟨⟨_, rfl, by rw [← HF.out]; exact hrow⟩, hbel⟩
set_option maxHeartbeats 1600000 in
theorem routesOfOthers_any (l : List Rt) (ao : Option Addr) (cap : Nat) (k : Int) (w : World) (hin : RtIn w ao l) (h24 : l.length ≤ 24) :
    Calls Tryz.prog 59 #[.slice ao l.length cap, .int .i64 k] w fun e w' => (∃ v, e = .returned v ∧ LRt w' w.heap.size v (l.filter fun r => !decide (r.pe = k))) ∧ Below w.heap.size w w' := by
  obtain ⟨i0, hi, hz0, hz1, hz2⟩ := info_parts infoLRt
  have HI : Hid (RtIn w ao l) := hin
  clear hin
  go_enter Tryz.func59, Tryz.ntmps59
  go_wp2_with fail
  go_loopw [5, 10] (fun v x wr => ∃ (i : Nat) (T : List Rt), x = .int .i64 i ∧ i ≤ l.length ∧ LRt wr w.heap.size v T ∧ Hid (T = (l.take i).filter fun r => !decide (r.pe = k)) ∧ Below w.heap.size w wr) (fun _ x _ => l.length - (intOf x).toNat)
  case atStart => exact ⟨0, [], rfl, Nat.zero_le _, LRt.nil _ _, by show _ = _; simp, Below.refl _ _⟩
  case round =>
    obtain ⟨i, T, rfl, hil, hrow, HT, hbel⟩ := hrel
    obtain ⟨oo, oc, rfl⟩ := ownsRow_shape hrow
    have hz := hbel.size
    have hTl : T.length ≤ 24 := by
      rw [HT.out]
      refine Nat.le_trans (List.length_filter_le _ _) ?_
      rw [List.length_take]; omega
    by_cases hlt : i < l.length
    · obtain ⟨rk, ro, rfl, bz2, c0, c1, c2, c3⟩ := HI.out.below hbel i hlt
      have HFT : Hid (((l.take (i + 1)).filter fun r => !decide (r.pe = k)) = ((l.take i).filter fun r => !decide (r.pe = k)) ++ (if !decide (l[i].pe = k) then [l[i]] else [])) := gfilter_take _ l i hlt
      generalize l[i] = r at *
      obtain ⟨rpe, rbt, rln, rpa⟩ := r
      simp only [] at c0 c1 c2 c3
      by_cases e1 : rpe = k
      · have HN : Hid (T = (l.take (i + 1)).filter fun r => !decide (r.pe = k)) := by
          show _ = _
          rw [HFT.out, ← HT.out]
          simp [e1]
        have q1 : (rpe != k) = false := by simp [e1]
        clear HFT HT e1
        go_wp2_with fail
        go_roundw
        case rel => exact ⟨i + 1, T, by go_num, by omega, ownsRow_below hrow (below_alloc _ _), HN, hbel.alloc hz _⟩
        case measure => simp [intOf]; omega
      · have HN : Hid (T ++ [⟨rpe, rbt, rln, rpa⟩] = (l.take (i + 1)).filter fun r => !decide (r.pe = k)) := by
          show _ = _
          rw [HFT.out, ← HT.out]
          simp [e1]
        have q1 : (rpe != k) = true := by simpa using e1
        clear HFT HT e1
        have hbA := hbel.alloc hz (.cells #[.int .i64 rpe, .int .i64 rbt, .int .i64 rln, .int .i64 rpa] 100)
        have hrA := ownsRow_below hrow (below_alloc wr (.cells #[.int .i64 rpe, .int .i64 rbt, .int .i64 rln, .int .i64 rpa] 100))
        go_wp2_with (at_builtin; refine wpList_append_own _ rfl _ _ 70 rfl w.heap.size 100 i0 _ 4 32 Tryz.underlying70 hi hz0 hz1 hz2 rfl (by decide) (.slice oo T.length oc) T.length (rtCs T) rfl (hrA.alloc _) ⟨wr.heap.size + 1, 0, none⟩ 1 1 (rtC ⟨rpe, rbt, rln, rpa⟩) rfl rfl (World.news_of_block (heap_new_at (wr.alloc _) _ _ (by simp))) (rtC_one _) (by unfold maxLen; omega) (by omega) (by simp; omega) ?_; intro v' w4 hown hgrow _; obtain ⟨ao', cap', rfl⟩ := ownsRow_shape hown)
        go_roundw
        case rel => exact ⟨i + 1, _, by go_num, by omega, LRt.snoc hown, HN, (hbA.alloc (by simp; omega) _).grown hgrow (by simp; omega) (fun k hk => by have := (World.ownsRow.lt hrA k hk).1; simp; omega)⟩
        case measure => simp [intOf]; omega
    · have HF : Hid (T = l.filter fun r => !decide (r.pe = k)) := by show _ = _; rw [HT.out, List.take_of_length_le (by omega)]
      clear HT
      go_wp2_with fail
      go_ret
      exact ⟨⟨_, rfl, by rw [← HF.out]; exact hrow⟩, hbel⟩
set_option maxHeartbeats 1600000 in
theorem claimsOfOthers_any (l : List Rl) (ao : Option Addr) (cap : Nat) (k : Int) (w : World) (hin : ClIn w ao l) (h24 : l.length ≤ 24) :
    Calls Tryz.prog 60 #[.slice ao l.length cap, .int .i64 k] w fun e w' => (∃ v, e = .returned v ∧ LCl w' w.heap.size v (l.filter fun r => !decide (r.pe = k))) ∧ Below w.heap.size w w' := by
  obtain ⟨i0, hi, hz0, hz1, hz2⟩ := info_parts infoLCl
  have HI : Hid (ClIn w ao l) := hin
  clear hin
  go_enter Tryz.func60, Tryz.ntmps60
  go_wp2_with fail
  go_loopw [5, 10] (fun v x wr => ∃ (i : Nat) (T : List Rl), x = .int .i64 i ∧ i ≤ l.length ∧ LCl wr w.heap.size v T ∧ Hid (T = (l.take i).filter fun r => !decide (r.pe = k)) ∧ Below w.heap.size w wr) (fun _ x _ => l.length - (intOf x).toNat)
  case atStart => exact ⟨0, [], rfl, Nat.zero_le _, LCl.nil _ _, by show _ = _; simp, Below.refl _ _⟩
  case round =>
    obtain ⟨i, T, rfl, hil, hrow, HT, hbel⟩ := hrel
    obtain ⟨oo, oc, rfl⟩ := ownsRow_shape hrow
    have hz := hbel.size
    have hTl : T.length ≤ 24 := by
      rw [HT.out]
      refine Nat.le_trans (List.length_filter_le _ _) ?_
      rw [List.length_take]; omega
    by_cases hlt : i < l.length
    · obtain ⟨rk, ro, rfl, bz2, c0, c1, c2⟩ := HI.out.below hbel i hlt
      have HFT : Hid (((l.take (i + 1)).filter fun r => !decide (r.pe = k)) = ((l.take i).filter fun r => !decide (r.pe = k)) ++ (if !decide (l[i].pe = k) then [l[i]] else [])) := gfilter_take _ l i hlt
      generalize l[i] = r at *
      obtain ⟨rtx, rpe, rac⟩ := r
      simp only [] at c0 c1 c2
      by_cases e1 : rpe = k
      · have HN : Hid (T = (l.take (i + 1)).filter fun r => !decide (r.pe = k)) := by
          show _ = _
          rw [HFT.out, ← HT.out]
          simp [e1]
        have q1 : (rpe != k) = false := by simp [e1]
        clear HFT HT e1
        go_wp2_with fail
        go_roundw
        case rel => exact ⟨i + 1, T, by go_num, by omega, ownsRow_below hrow (below_alloc _ _), HN, hbel.alloc hz _⟩
        case measure => simp [intOf]; omega
      · have HN : Hid (T ++ [⟨rtx, rpe, rac⟩] = (l.take (i + 1)).filter fun r => !decide (r.pe = k)) := by
          show _ = _
          rw [HFT.out, ← HT.out]
          simp [e1]
        have q1 : (rpe != k) = true := by simpa using e1
        clear HFT HT e1
        have hbA := hbel.alloc hz (.cells #[.int .i64 rpe, .string rtx, .int .i64 rac] 110)
        have hrA := ownsRow_below hrow (below_alloc wr (.cells #[.int .i64 rpe, .string rtx, .int .i64 rac] 110))
        go_wp2_with (at_builtin; refine wpList_append_own _ rfl _ _ 71 rfl w.heap.size 110 i0 _ 3 32 Tryz.underlying71 hi hz0 hz1 hz2 rfl (by decide) (.slice oo T.length oc) T.length (clCs T) rfl (hrA.alloc _) ⟨wr.heap.size + 1, 0, none⟩ 1 1 (clC ⟨rtx, rpe, rac⟩) rfl rfl (World.news_of_block (heap_new_at (wr.alloc _) _ _ (by simp))) (clC_one _) (by unfold maxLen; omega) (by omega) (by simp; omega) ?_; intro v' w4 hown hgrow _; obtain ⟨ao', cap', rfl⟩ := ownsRow_shape hown)
        go_roundw
        case rel => exact ⟨i + 1, _, by go_num, by omega, LCl.snoc hown, HN, (hbA.alloc (by simp; omega) _).grown hgrow (by simp; omega) (fun k hk => by have := (World.ownsRow.lt hrA k hk).1; simp; omega)⟩
        case measure => simp [intOf]; omega
    · have HF : Hid (T = l.filter fun r => !decide (r.pe = k)) := by show _ = _; rw [HT.out, List.take_of_length_le (by omega)]
      clear HT
      go_wp2_with fail
      go_ret
      exact ⟨⟨_, rfl, by rw [← HF.out]; exact hrow⟩, hbel⟩
end Go.Proofs.YtgkiknfpcbcnnaaGreat
