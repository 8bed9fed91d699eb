import Derived.Test.YtgkiknfpcbcnnabGreatTcc
import Derived.Laws.AppendOwnNone
namespace Go.Proofs.YtgkiknfpcbcnnabGreat
open Go.RowKit
set_option maxRecDepth 20000

/-- Does a cube fit, as the keeper asks it? -/
def fitZ (c b : ByteArray) : Bool := decide (c.size = b.size) && fitL (bl c) (bl b)
theorem fitL_len : ∀ (x y : List UInt8), fitL x y = true → x.length = y.length := by
  intro x
  induction x with
  | nil => intro y h; cases y with
    | nil => rfl
    | cons b y => simp [fitL] at h
  | cons a x ih => intro y h; cases y with
    | nil => simp [fitL] at h
    | cons b y =>
      simp only [fitL, Bool.and_eq_true] at h
      simp only [List.length_cons]
      rw [ih y h.2]
theorem fitZ_eq (c b : ByteArray) : fitZ c b = fitL (bl c) (bl b) := by
  unfold fitZ
  by_cases hs : c.size = b.size
  · rw [decide_eq_true hs, Bool.true_and]
  · rw [decide_eq_false hs, Bool.false_and]
    cases hf : fitL (bl c) (bl b)
    · rfl
    · have := fitL_len _ _ hf
      rw [bl_len, bl_len] at this
      exact absurd this hs
theorem keepFits_any (c b : ByteArray) (w : World) (hb : b.size ≤ 1000) :
    Calls Tryz.prog 78 #[.string c, .string b] w fun e w' => e = .returned (.bool (fitZ c b)) ∧ ∃ n, w' = w.drewN n := by
  by_cases hs : c.size = b.size
  · have := fits_any c b w hs hb
    unfold fitZ
    rw [decide_eq_true hs, Bool.true_and]
    exact this
  · have hse : ((c.size : Int) != (b.size : Int)) = true := by simp; omega
    have HZ : Hid (fitZ c b = false) := by show _ = _; unfold fitZ; rw [decide_eq_false hs]; rfl
    obtain ⟨Z, hZ⟩ : ∃ Z, Z = fitZ c b := ⟨_, rfl⟩
    rw [← hZ] at HZ ⊢
    clear hZ hs
    go_enter Tryz.func78, Tryz.ntmps78
    go_wp2_with fail
    go_ret
    exact ⟨by rw [HZ.out]; rfl, 0, rfl⟩
/-- What the keeper finds first. -/
def firB (T : List En) (b : ByteArray) : Int := ((T.find? fun e => fitZ e.bt b).map En.ac).getD 0

theorem firB_eq (T : List En) (b : ByteArray) : firB T b = firA T (bl b) := by
  unfold firB firA
  have : (fun e : En => fitZ e.bt b) = fun e => fitL (bl e.bt) (bl b) := by funext e; exact fitZ_eq _ _
  rw [this]

set_option maxHeartbeats 800000 in
theorem keepFirst_any (T : List En) (to : Option Addr) (tc : Nat) (b : ByteArray) (w : World) (hb : b.size ≤ 1000) (hin : EnIn w to T) (h256 : T.length ≤ 256) :
    Calls Tryz.prog 49 #[.slice to T.length tc, .string b] w fun e w' => e = .returned (.int .i64 (firB T b)) ∧ ∃ n, w' = w.drewN n := by
  have HI : Hid (EnIn w to T) := hin
  have HF : Hid (∀ c w, Calls Tryz.prog 78 #[.string c, .string b] w fun e w' => e = .returned (.bool (fitZ c b)) ∧ ∃ n, w' = w.drewN n) := fun c w => keepFits_any c b w hb
  obtain ⟨R, hR⟩ : ∃ R, R = firB T b := ⟨_, rfl⟩
  have HR : Hid (R = ((T.find? fun e => fitZ e.bt b).map En.ac).getD 0) := hR
  rw [← hR]
  clear hR hin hb
  go_enter Tryz.func49, Tryz.ntmps49
  go_wp2_with fail
  go_loopw [5] (fun x wr => ∃ i nd : Nat, x = .int .i64 i ∧ i ≤ T.length ∧ Hid (R = (((T.drop i).find? fun e => fitZ e.bt b).map En.ac).getD 0) ∧ wr = w.drewN nd) (fun x _ => T.length - (intOf x).toNat)
  case atStart => exact ⟨0, 0, rfl, Nat.zero_le _, HR, rfl⟩
  case round =>
    clear HR
    obtain ⟨i, nd, rfl, hil, H, rfl⟩ := hrel
    by_cases hlt : i < T.length
    · obtain ⟨g, rfl, hgz, c0, c1, _⟩ := HI.out i hlt
      have hno : fitZ T[i].bt b = false → Hid (R = (((T.drop (i + 1)).find? fun e => fitZ e.bt b).map En.ac).getD 0) := fun hf => by
        show _ = _
        rw [H.out, find_drop_no hlt hf]
      have hyes : fitZ T[i].bt b = true → Hid (R = T[i].ac) := fun hf => by
        show _ = _
        rw [H.out, find_drop_yes hlt hf]
        rfl
      have HFC : Hid (∀ w, Calls Tryz.prog 78 #[.string T[i].bt, .string b] w fun e w' => e = .returned (.bool (fitZ T[i].bt b)) ∧ ∃ n, w' = w.drewN n) := HF.out T[i].bt
      generalize T[i] = r at *
      obtain ⟨rbt, rac, rtx⟩ := r
      simp only [] at c0 c1 hno hyes HFC
      cases hf : fitZ rbt b
      · have HN := hno hf
        rw [hf] at HFC
        clear hno hyes hf H
        go_wp2_with (go_at_call 78; refine (HFC.out _).mono ?_; rintro e w1 ⟨rfl, n1, hw1⟩; rw [World.drewN_drewN] at hw1; subst hw1)
        go_roundw
        case rel => exact ⟨i + 1, _, by go_num, by omega, HN, rfl⟩
        case measure => simp [intOf]; omega
      · have HN := hyes hf
        rw [hf] at HFC
        clear hno hyes hf H
        go_wp2_with (go_at_call 78; refine (HFC.out _).mono ?_; rintro e w1 ⟨rfl, n1, hw1⟩; rw [World.drewN_drewN] at hw1; subst hw1)
        go_ret
        exact ⟨by rw [HN.out]; rfl, _, rfl⟩
    · obtain rfl : R = 0 := by rw [H.out, List.drop_of_length_le (by omega)]; rfl
      clear H
      go_wp2_with fail
      go_ret
      exact ⟨rfl, nd, rfl⟩

theorem lacks_take (A B : List En) (i : Nat) (h : i < A.length) : lacks (A.take (i + 1)) B = lacks (A.take i) B + (if inT B A[i] then 0 else 1) := by
  unfold lacks
  rw [List.take_add_one, List.getElem?_eq_getElem h, List.countP_append]
  cases hh : inT B A[i] <;> simp [hh]
theorem inT_take (B : List En) (e : En) (k : Nat) (h : k < B.length) : inT (B.take (k + 1)) e = (inT (B.take k) e || enEq e B[k]) := by
  unfold inT
  rw [List.take_add_one, List.getElem?_eq_getElem h, List.any_append]
  simp
theorem inT_take_true {B : List En} {e : En} {k : Nat} (h : inT (B.take k) e = true) : inT B e = true := by
  rw [inT_iff] at h ⊢
  exact List.mem_of_mem_take h

set_option maxHeartbeats 1600000 in
theorem keepLacks_any (A B : List En) (ao bo : Option Addr) (ac bc : Nat) (w : World) (ha : EnIn w ao A) (hb : EnIn w bo B) (h1 : A.length ≤ 256) (h2 : B.length ≤ 256) :
    Calls Tryz.prog 99 #[.slice ao A.length ac, .slice bo B.length bc] w fun e w' => e = .returned (.int .i64 (lacks A B : Nat)) ∧ ∃ n, w' = w.drewN n := by
  have HA : Hid (EnIn w ao A) := ha
  have HB : Hid (EnIn w bo B) := hb
  obtain ⟨R, hR⟩ : ∃ R, R = lacks A B := ⟨_, rfl⟩
  have HR : Hid (R = lacks A B) := hR
  rw [← hR]
  clear ha hb hR
  go_enter Tryz.func99, Tryz.ntmps99
  go_wp2_with fail
  go_loopw [5, 6] (fun a x wr => ∃ i n nd : Nat, x = .int .i64 i ∧ a = .int .i64 n ∧ i ≤ A.length ∧ n ≤ i ∧ Hid (n = lacks (A.take i) B) ∧ wr = w.drewN nd) (fun _ x _ => A.length - (intOf x).toNat)
  case atStart => exact ⟨0, 0, 0, rfl, rfl, Nat.zero_le _, Nat.le_refl _, rfl, rfl⟩
  case round =>
    obtain ⟨i, n, nd, rfl, rfl, hil, hni, H, rfl⟩ := hrel
    by_cases hlt : i < A.length
    · obtain ⟨g, rfl, hgz, c0, c1, c2⟩ := HA.out i hlt
      have HLT : Hid (lacks (A.take (i + 1)) B = lacks (A.take i) B + (if inT B A[i] then 0 else 1)) := lacks_take A B i hlt
      generalize A[i] = r at *
      go_wp2_with fail
      go_loopw [7, 8] (fun v x wr => ∃ (k nd : Nat) (inb : Bool), x = .int .i64 k ∧ v = .bool inb ∧ k ≤ B.length ∧ Hid (inb = inT (B.take k) r) ∧ wr = w.drewN nd) (fun _ x _ => B.length - (intOf x).toNat)
      case atStart => exact ⟨0, nd, false, rfl, rfl, Nat.zero_le _, rfl, rfl⟩
      case round =>
        obtain ⟨k, nd', inb, rfl, rfl, hkl, HI, rfl⟩ := hrel
        cases inb
        · by_cases hlt' : k < B.length
          · obtain ⟨g', rfl, hgz', d0, d1, d2⟩ := HB.out k hlt'
            have HT : Hid (inT (B.take (k + 1)) r = enEq r B[k]) := by show _ = _; rw [inT_take B r k hlt', ← HI.out]; rfl
            generalize B[k] = z at *
            obtain ⟨rbt, rac, rtx⟩ := r
            obtain ⟨zbt, zac, ztx⟩ := z
            simp only [] at c0 c1 c2 d0 d1 d2
            by_cases e1 : rbt = zbt ∧ rac = zac ∧ rtx = ztx
            · obtain ⟨rfl, rfl, rfl⟩ := e1
              have HN : Hid (true = inT (B.take (k + 1)) ⟨rbt, rac, rtx⟩) := by show _ = _; rw [HT.out, enEq_self]
              clear HI HT
              go_wp2_with fail
              go_quiet (fail)
              go_wp2_with fail
              go_roundw
              case rel => exact ⟨k + 1, _, true, by go_num, by simp, by omega, HN, rfl⟩
              case measure => simp [intOf]; omega
            · have HN : Hid (false = inT (B.take (k + 1)) ⟨rbt, rac, rtx⟩) := by
                show _ = _
                rw [HT.out]
                cases hh : enEq ⟨rbt, rac, rtx⟩ ⟨zbt, zac, ztx⟩
                · rfl
                · have := (enEq_iff _ _).1 hh
                  simp only [En.mk.injEq] at this
                  exact absurd this e1
              have q : (rbt.toList == zbt.toList) = false ∨ (rac == zac) = false ∨ (rtx.toList == ztx.toList) = false := by
                by_cases x : rbt = zbt
                · by_cases y : rac = zac
                  · exact .inr (.inr (text_ne fun z => e1 ⟨x, y, z⟩))
                  · exact .inr (.inl (by simpa using y))
                · exact .inl (text_ne x)
              clear HI HT e1
              rcases q with q | q | q
              all_goals
                go_wp2_with fail
                go_quiet (fail)
                go_wp2_with fail
                go_roundw
                case rel => exact ⟨k + 1, _, false, by go_num, by first | rfl | (simp; done) | (rw [q]; simp), by omega, HN, rfl⟩
                case measure => simp [intOf]; omega
          · have HN : Hid (n + 1 = lacks (A.take (i + 1)) B) := by
              show _ = _
              have hh : inT B r = false := by have := HI.out; rw [List.take_of_length_le (by omega)] at this; exact this.symm
              rw [HLT.out, ← H.out, hh]
              rfl
            clear HI H HLT
            go_wp2_with fail
            go_roundw
            case rel => exact ⟨i + 1, n + 1, nd', by go_num, by go_num, by omega, by omega, HN, rfl⟩
            case measure => simp [intOf]; omega
        · have HN : Hid (n = lacks (A.take (i + 1)) B) := by
            show _ = _
            rw [HLT.out, ← H.out, inT_take_true HI.out.symm]
            rfl
          clear HI H HLT
          by_cases hlt' : k < B.length
          · go_wp2_with fail
            go_roundw
            case rel => exact ⟨i + 1, n, nd', by go_num, rfl, by omega, by omega, HN, rfl⟩
            case measure => simp [intOf]; omega
          · go_wp2_with fail
            go_roundw
            case rel => exact ⟨i + 1, n, nd', by go_num, rfl, by omega, by omega, HN, rfl⟩
            case measure => simp [intOf]; omega
    · obtain rfl : n = R := by rw [HR.out, H.out, List.take_of_length_le (by omega)]
      clear H HR
      go_wp2_with fail
      go_ret
      exact ⟨rfl, nd, rfl⟩
end Go.Proofs.YtgkiknfpcbcnnabGreat

namespace Go.Proofs.YtgkiknfpcbcnnabGreat
open Go.RowKit
set_option maxRecDepth 20000

theorem enCs_len (l : List En) : (enCs l).length = l.length * 3 := by
  induction l with
  | nil => rfl
  | cons a l ih =>
    have e : enCs (a :: l) = .string a.bt :: .int .i64 a.ac :: .string a.tx :: enCs l := rfl
    rw [e]
    simp only [List.length_cons]
    omega
theorem enCs_app (a b : List En) : enCs (a ++ b) = enCs a ++ enCs b := by simp [enCs]
theorem enCs_one (l : List En) : ∀ u ∈ enCs l, u.oneCell' = true := by
  intro u hu
  unfold enCs at hu
  obtain ⟨x, _, hx⟩ := List.mem_flatMap.1 hu
  exact enC_one x u hx
theorem addG (g o k : Nat) : (⟨g, o, none⟩ : Addr).add k = ⟨g, o + k, none⟩ := by unfold Addr.add; split <;> simp_all
/-- The cells of a piece of a table. -/
theorem piece {w : World} {B g n c : Nat} {T : List En} (h : ERow w B (.slice (some ⟨g, 0, none⟩) n c) T) (p k : Nat) : ∀ (j : Nat) (u : Value), (enCs ((T.drop p).take k))[j]? = some u → w.cell? (Addr.add ⟨g, p * 3, none⟩ j) = some u := by
  intro j u hu
  have hlen := (List.getElem?_eq_some_iff.1 hu).1
  rw [enCs_len, List.length_take, List.length_drop] at hlen
  have hsplit : enCs T = enCs (T.take p) ++ (enCs ((T.drop p).take k) ++ enCs ((T.drop p).drop k)) := by
    rw [← enCs_app, List.take_append_drop, ← enCs_app, List.take_append_drop]
  have hp : (T.take p).length = p := by rw [List.length_take]; omega
  have e : (enCs T)[p * 3 + j]? = some u := by
    rw [hsplit, List.getElem?_append_right (by rw [enCs_len, hp]; omega), enCs_len, hp, show p * 3 + j - p * 3 = j by omega, List.getElem?_append_left (by rw [enCs_len, List.length_take, List.length_drop]; exact hlen)]
    exact hu
  have hc := h.cells (g := g) rfl (p * 3 + j) u e
  rw [add0, Nat.zero_add] at hc
  rw [addG]
  exact hc

set_option maxHeartbeats 1600000 in
theorem done_in (T : List En) (en : En) (p : Nat) (g c B : Nat) (w : World) (h : ERow w B (.slice (some ⟨g, 0, none⟩) T.length c) T) (hp : p ≤ T.length) (h256 : T.length ≤ 256) :
    Calls Tryz.prog 98 #[.slice (some ⟨g, 0, none⟩) T.length c, .agg #[.int .i64 1, .int .i64 (p : Int), .string en.bt, .int .i64 en.ac, .string en.tx]] w fun e w' => (∃ v', e = .returned (.tuple #[v', .bool true]) ∧ ERow w' w.heap.size v' (T.take p ++ en :: T.drop p)) ∧ Below w.heap.size w w' := by
  obtain ⟨i0, hi, hz0, hz1, hz2⟩ := info_parts infoEntry
  have HE : Hid (ERow w B (.slice (some ⟨g, 0, none⟩) T.length c) T) := h
  have hgz := (World.ownsRow.lt h g rfl).2
  have hcap : T.length ≤ c := by
    rcases h.2 with ⟨he, _⟩ | ⟨g', c', cur, hv, _, hh, hnc, _⟩
    · simp at he
    · simp only [Value.slice.injEq] at hv
      rw [hv.2.2]; exact hnc
  have hcm : c ≤ 9223372036854775807 := by
    rcases h.2 with ⟨he, _⟩ | ⟨g', c', cur, hv, _, hh, hnc, hml, _⟩
    · simp at he
    · simp only [Value.slice.injEq] at hv
      rw [hv.2.2]; unfold maxLen at hml; omega
  clear h
  have d1 : decide (p ≤ T.length) = true := by simpa using hp
  have ip : (p : Int) ≤ (T.length : Int) := by omega
  have ic : (p : Int) ≤ (c : Int) := by omega
  go_enter Tryz.func98, Tryz.ntmps98
  have HW : Hid (∀ {W : World}, Below w.heap.size w W → ERow W B (.slice (some ⟨g, 0, none⟩) T.length c) T) := fun hW => HE.out.same (fun b hb => hW.block b (World.ownsRow.lt HE.out b hb).2)
  have hoE : ∀ {v : Value} {l : List En} {W : World} {B : Nat}, ERow W B v l → W.ownsRow B 53 3 v l.length (enCs l) := fun h => h
  obtain ⟨wA, hwA⟩ : ∃ wA, wA = w.alloc (.cells #[.int .i64 1, .int .i64 (p : Int), .string en.bt, .int .i64 en.ac, .string en.tx] 169) := ⟨_, rfl⟩
  have HWA : Hid (wA = w.alloc (.cells #[.int .i64 1, .int .i64 (p : Int), .string en.bt, .int .i64 en.ac, .string en.tx] 169)) := hwA
  have hbA : Below w.heap.size w wA := by rw [hwA]; exact below_alloc _ _
  have hvA : wA.heap[w.heap.size]? = some (.cells #[.int .i64 1, .int .i64 (p : Int), .string en.bt, .int .i64 en.ac, .string en.tx] 169 (0, 0)) := by rw [hwA]; exact heap_alloc_new w _
  have hzA := lt_of_block hvA
  clear hwA
  have htl : (T.take p).length = p := by rw [List.length_take]; omega
  have HT1 : Hid (∀ {W : World}, Below w.heap.size w W → ∀ (j : Nat) (u : Value), (enCs (T.take p))[j]? = some u → W.cell? (Addr.add ⟨g, 0, none⟩ j) = some u) := fun hW j u hu => by
    have := piece (HW.out hW) 0 p j u (by rw [List.drop_zero]; exact hu)
    rw [Nat.zero_mul] at this
    exact this
  have HT2 : Hid (∀ {W : World}, Below w.heap.size w W → ∀ (j : Nat) (u : Value), (enCs (T.drop p))[j]? = some u → W.cell? (Addr.add ⟨g, p * 3, none⟩ j) = some u) := fun hW j u hu => by
    have := piece (HW.out hW) p (T.length - p) j u (by rw [List.take_of_length_le (by rw [List.length_drop]; exact Nat.le_refl _)]; exact hu)
    exact this
  have hl1 : (enCs (T.take p)).length = p * 3 := by rw [enCs_len, htl]
  have hl2 : (enCs (T.drop p)).length = (T.length - p) * 3 := by rw [enCs_len, List.length_drop]
  have HL1 : Hid ((enCs (T.take p)).length = p * 3) := hl1
  have HL2 : Hid ((enCs (T.drop p)).length = (T.length - p) * 3) := hl2
  have HTL : Hid ((T.take p).length = p) := htl
  clear htl hl1 hl2
  go_upto_region 4 with (at_builtin; rw [← HWA.out]; refine wpList_append_own _ rfl _ _ 34 rfl wA.heap.size 53 i0 _ 3 40 Tryz.underlying34 hi hz0 hz1 hz2 rfl (by decide) (.slice none 0 0) 0 [] rfl (World.ownsRow_nil _ _ _ _) ⟨g, 0, none⟩ p c (enCs (T.take p)) rfl HL1.out (HT1.out hbA) (enCs_one _) (by unfold maxLen; omega) (by omega) (Nat.le_refl _) ?_; intro v1 w1 hown1 hgrow1 _; rw [Nat.zero_add, List.nil_append] at hown1)
  have hr1 : ERow w1 wA.heap.size v1 (T.take p) := by unfold ERow; rw [HTL.out]; exact hown1
  obtain ⟨o1, c1, rfl⟩ := ownsRow_shape hr1
  rw [HTL.out] at hr1
  rw [HTL.out]
  have hb1 : Below wA.heap.size wA w1 := (Below.refl _ _).grown hgrow1 (Nat.le_refl _) (fun k hk => by simp [Value.ownBlock] at hk)
  have hbw1 : Below w.heap.size w w1 := hbA.trans (hb1.mono hbA.size)
  have hv1 := (hb1.block _ hzA).trans hvA
  have f2 := cell_of_row w1 w.heap.size 2 _ _ _ hv1
  have f3 := cell_of_row w1 w.heap.size 3 _ _ _ hv1
  have f4 := cell_of_row w1 w.heap.size 4 _ _ _ hv1
  have hz1' := hb1.size
  have HR1 : Hid (w1.ownsRow wA.heap.size 53 3 (.slice o1 p c1) p (enCs (T.take p))) := by
    show World.ownsRow _ _ _ _ _ _ _
    have := hoE hr1
    rw [HTL.out] at this
    exact this
  clear hown1 hgrow1 hr1
  go_upto_region 5 with (at_builtin; refine wpList_append_own _ rfl _ _ 34 rfl wA.heap.size 53 i0 _ 3 40 Tryz.underlying34 hi hz0 hz1 hz2 rfl (by decide) (.slice o1 p c1) p (enCs (T.take p)) rfl (HR1.out.alloc _) ⟨w1.heap.size, 0, none⟩ 1 1 (enC en) rfl rfl (World.news_of_block (heap_alloc_new w1 _)) (enC_one _) (by unfold maxLen; omega) (by omega) (by simp; omega) ?_; intro v2 w2 hown2 hgrow2 _)
  obtain ⟨o2, c2, rfl⟩ := ownsRow_shape hown2
  have hb2 : Below wA.heap.size wA w2 := (hb1.alloc hz1' _).grown hgrow2 (by simp; omega) (fun k hk => (World.ownsRow.lt HR1.out k hk).1)
  have hbw2 : Below w.heap.size w w2 := hbA.trans (hb2.mono hbA.size)
  have hv2 := (hb2.block _ hzA).trans hvA
  have g1 := cell_of_row w2 w.heap.size 1 _ _ _ hv2
  have hz2' := hb2.size
  have HR2 : Hid (w2.ownsRow wA.heap.size 53 3 (.slice o2 (p + 1) c2) (p + 1) (enCs (T.take p) ++ enC en)) := hown2
  clear hown2 hgrow2 HR1 f2 f3 f4 hv1 hv2
  have HSM : Hid (enCs (T.take p ++ en :: T.drop p) = (enCs (T.take p) ++ enC en) ++ enCs (T.drop p)) := by
    show _ = _
    rw [enCs_app]
    rw [show enCs (en :: T.drop p) = enC en ++ enCs (T.drop p) from rfl, List.append_assoc]
  have HSL : Hid ((T.take p ++ en :: T.drop p).length = (p + 1) + (T.length - p)) := by
    show _ = _
    rw [List.length_append, List.length_cons, List.length_take, List.length_drop]
    omega
  by_cases hcp : c = p
  · have htp : T.length = p := by omega
    have hdn : T.drop p = [] := List.drop_of_length_le (by omega)
    have HL3 : Hid ((enCs (T.drop p)).length = (T.length - p) * 3 ∧ ∀ (j : Nat) (u : Value), (enCs (T.drop p))[j]? = some u → w2.cell? (Addr.add ⟨g, 0, none⟩ j) = some u) := ⟨HL2.out, fun j u hu => by rw [hdn] at hu; simp [enCs] at hu⟩
    have h9 : c - p = 0 := by omega
    clear htp hdn hcp
    go_wp2_with (at_builtin; refine wpList_append_own _ rfl _ _ 34 rfl wA.heap.size 53 i0 _ 3 40 Tryz.underlying34 hi hz0 hz1 hz2 rfl (by decide) (.slice o2 (p + 1) c2) (p + 1) (enCs (T.take p) ++ enC en) rfl HR2.out ⟨g, 0, none⟩ (T.length - p) 0 (enCs (T.drop p)) rfl HL3.out.1 HL3.out.2 (enCs_one _) (by unfold maxLen; omega) (by omega) hz2' ?_; intro v3 w3 hown3 hgrow3 _; obtain ⟨o3, c3, rfl⟩ := ownsRow_shape hown3)
    go_ret2
    have hb3 : Below wA.heap.size wA w3 := hb2.grown hgrow3 (by omega) (fun k hk => (World.ownsRow.lt HR2.out k hk).1)
    refine ⟨⟨_, rfl, ?_⟩, hbA.trans (hb3.mono hbA.size)⟩
    unfold ERow
    rw [HSM.out, HSL.out]
    exact ownsRow_base hown3 hbA.size
  · have h9 : ¬ c - p = 0 := by omega
    clear hcp
    go_wp2_with (at_builtin; refine wpList_append_own _ rfl _ _ 34 rfl wA.heap.size 53 i0 _ 3 40 Tryz.underlying34 hi hz0 hz1 hz2 rfl (by decide) (.slice o2 (p + 1) c2) (p + 1) (enCs (T.take p) ++ enC en) rfl HR2.out ⟨g, p * 3, none⟩ (T.length - p) (c - p) (enCs (T.drop p)) rfl HL2.out (HT2.out hbw2) (enCs_one _) (by unfold maxLen; omega) (by omega) hz2' ?_; intro v3 w3 hown3 hgrow3 _; obtain ⟨o3, c3, rfl⟩ := ownsRow_shape hown3)
    go_ret2
    have hb3 : Below wA.heap.size wA w3 := hb2.grown hgrow3 (by omega) (fun k hk => (World.ownsRow.lt HR2.out k hk).1)
    refine ⟨⟨_, rfl, ?_⟩, hbA.trans (hb3.mono hbA.size)⟩
    unfold ERow
    rw [HSM.out, HSL.out]
    exact ownsRow_base hown3 hbA.size
end Go.Proofs.YtgkiknfpcbcnnabGreat

namespace Go.Proofs.YtgkiknfpcbcnnabGreat
open Go.RowKit
set_option maxRecDepth 20000

set_option maxHeartbeats 1600000 in
theorem done_out (T : List En) (p : Nat) (g c B : Nat) (w : World) (h : ERow w B (.slice (some ⟨g, 0, none⟩) T.length c) T) (hp : p < T.length) (h256 : T.length ≤ 256) :
    Calls Tryz.prog 98 #[.slice (some ⟨g, 0, none⟩) T.length c, .agg #[.int .i64 2, .int .i64 (p : Int), .string ⟨#[]⟩, .int .i64 0, .string ⟨#[]⟩]] w fun e w' => (∃ v', e = .returned (.tuple #[v', .bool true]) ∧ ERow w' w.heap.size v' (T.take p ++ T.drop (p + 1))) ∧ Below w.heap.size w w' := by
  obtain ⟨i0, hi, hz0, hz1, hz2⟩ := info_parts infoEntry
  have HE : Hid (ERow w B (.slice (some ⟨g, 0, none⟩) T.length c) T) := h
  have hgz := (World.ownsRow.lt h g rfl).2
  have hcap : T.length ≤ c := by
    rcases h.2 with ⟨he, _⟩ | ⟨g', c', cur, hv, _, hh, hnc, _⟩
    · simp at he
    · simp only [Value.slice.injEq] at hv
      rw [hv.2.2]; exact hnc
  have hcm : c ≤ 9223372036854775807 := by
    rcases h.2 with ⟨he, _⟩ | ⟨g', c', cur, hv, _, hh, hnc, hml, _⟩
    · simp at he
    · simp only [Value.slice.injEq] at hv
      rw [hv.2.2]; unfold maxLen at hml; omega
  clear h
  have d1 : decide (p < T.length) = true := by simpa using hp
  have ip : (p : Int) < (T.length : Int) := by omega
  have ic : (p : Int) + 1 ≤ (c : Int) := by omega
  go_enter Tryz.func98, Tryz.ntmps98
  have HW : Hid (∀ {W : World}, Below w.heap.size w W → ERow W B (.slice (some ⟨g, 0, none⟩) T.length c) T) := fun hW => HE.out.same (fun b hb => hW.block b (World.ownsRow.lt HE.out b hb).2)
  have hoE : ∀ {v : Value} {l : List En} {W : World} {B : Nat}, ERow W B v l → W.ownsRow B 53 3 v l.length (enCs l) := fun h => h
  obtain ⟨wA, hwA⟩ : ∃ wA, wA = w.alloc (.cells #[.int .i64 2, .int .i64 (p : Int), .string ⟨#[]⟩, .int .i64 0, .string ⟨#[]⟩] 169) := ⟨_, rfl⟩
  have HWA : Hid (wA = w.alloc (.cells #[.int .i64 2, .int .i64 (p : Int), .string ⟨#[]⟩, .int .i64 0, .string ⟨#[]⟩] 169)) := hwA
  have hbA : Below w.heap.size w wA := by rw [hwA]; exact below_alloc _ _
  have hvA : wA.heap[w.heap.size]? = some (.cells #[.int .i64 2, .int .i64 (p : Int), .string ⟨#[]⟩, .int .i64 0, .string ⟨#[]⟩] 169 (0, 0)) := by rw [hwA]; exact heap_alloc_new w _
  have hzA := lt_of_block hvA
  clear hwA
  have htl : (T.take p).length = p := by rw [List.length_take]; omega
  have HT1 : Hid (∀ {W : World}, Below w.heap.size w W → ∀ (j : Nat) (u : Value), (enCs (T.take p))[j]? = some u → W.cell? (Addr.add ⟨g, 0, none⟩ j) = some u) := fun hW j u hu => by
    have := piece (HW.out hW) 0 p j u (by rw [List.drop_zero]; exact hu)
    rw [Nat.zero_mul] at this
    exact this
  have HT2 : Hid (∀ {W : World}, Below w.heap.size w W → ∀ (j : Nat) (u : Value), (enCs (T.drop (p + 1)))[j]? = some u → W.cell? (Addr.add ⟨g, (p + 1) * 3, none⟩ j) = some u) := fun hW j u hu => by
    have := piece (HW.out hW) (p + 1) (T.length - (p + 1)) j u (by rw [List.take_of_length_le (by rw [List.length_drop]; exact Nat.le_refl _)]; exact hu)
    exact this
  have hl1 : (enCs (T.take p)).length = p * 3 := by rw [enCs_len, htl]
  have hl2 : (enCs (T.drop (p + 1))).length = (T.length - (p + 1)) * 3 := by rw [enCs_len, List.length_drop]
  have HL1 : Hid ((enCs (T.take p)).length = p * 3) := hl1
  have HL2 : Hid ((enCs (T.drop (p + 1))).length = (T.length - (p + 1)) * 3) := hl2
  have HTL : Hid ((T.take p).length = p) := htl
  clear htl hl1 hl2
  go_upto_region 9 with (at_builtin; rw [← HWA.out]; refine wpList_append_own _ rfl _ _ 34 rfl wA.heap.size 53 i0 _ 3 40 Tryz.underlying34 hi hz0 hz1 hz2 rfl (by decide) (.slice none 0 0) 0 [] rfl (World.ownsRow_nil _ _ _ _) ⟨g, 0, none⟩ p c (enCs (T.take p)) rfl HL1.out (HT1.out hbA) (enCs_one _) (by unfold maxLen; omega) (by omega) (Nat.le_refl _) ?_; intro v1 w1 hown1 hgrow1 _; rw [Nat.zero_add, List.nil_append] at hown1)
  have hr1 : ERow w1 wA.heap.size v1 (T.take p) := by unfold ERow; rw [HTL.out]; exact hown1
  obtain ⟨o1, c1, rfl⟩ := ownsRow_shape hr1
  rw [HTL.out] at hr1
  rw [HTL.out]
  have hb1 : Below wA.heap.size wA w1 := (Below.refl _ _).grown hgrow1 (Nat.le_refl _) (fun k hk => by simp [Value.ownBlock] at hk)
  have hbw1 : Below w.heap.size w w1 := hbA.trans (hb1.mono hbA.size)
  have hv1 := (hb1.block _ hzA).trans hvA
  have f1 := cell_of_row w1 w.heap.size 1 _ _ _ hv1
  have hz1' := hb1.size
  have HR1 : Hid (w1.ownsRow wA.heap.size 53 3 (.slice o1 p c1) p (enCs (T.take p))) := by
    show World.ownsRow _ _ _ _ _ _ _
    have := hoE hr1
    rw [HTL.out] at this
    exact this
  clear hown1 hgrow1 hr1
  have HSM : Hid (enCs (T.take p ++ T.drop (p + 1)) = enCs (T.take p) ++ enCs (T.drop (p + 1))) := enCs_app _ _
  have HSL : Hid ((T.take p ++ T.drop (p + 1)).length = p + (T.length - (p + 1))) := by
    show _ = _
    rw [List.length_append, List.length_take, List.length_drop]
    omega
  by_cases hcp : c = p + 1
  · have htp : T.length = p + 1 := by omega
    have hdn : T.drop (p + 1) = [] := List.drop_of_length_le (by omega)
    have HL3 : Hid ((enCs (T.drop (p + 1))).length = (T.length - (p + 1)) * 3 ∧ ∀ (j : Nat) (u : Value), (enCs (T.drop (p + 1)))[j]? = some u → w1.cell? (Addr.add ⟨g, 0, none⟩ j) = some u) := ⟨HL2.out, fun j u hu => by rw [hdn] at hu; simp [enCs] at hu⟩
    have h9 : c - (p + 1) = 0 := by omega
    clear htp hdn hcp
    go_wp2_with (at_builtin; refine wpList_append_own _ rfl _ _ 34 rfl wA.heap.size 53 i0 _ 3 40 Tryz.underlying34 hi hz0 hz1 hz2 rfl (by decide) (.slice o1 p c1) p (enCs (T.take p)) rfl HR1.out ⟨g, 0, none⟩ (T.length - (p + 1)) 0 (enCs (T.drop (p + 1))) rfl HL3.out.1 HL3.out.2 (enCs_one _) (by unfold maxLen; omega) (by omega) hz1' ?_; intro v3 w3 hown3 hgrow3 _; obtain ⟨o3, c3, rfl⟩ := ownsRow_shape hown3)
    go_ret2
    have hb3 : Below wA.heap.size wA w3 := hb1.grown hgrow3 (by omega) (fun k hk => (World.ownsRow.lt HR1.out k hk).1)
    refine ⟨⟨_, rfl, ?_⟩, hbA.trans (hb3.mono hbA.size)⟩
    unfold ERow
    rw [HSM.out, HSL.out]
    exact ownsRow_base hown3 hbA.size
  · have h9 : ¬ c - (p + 1) = 0 := by omega
    clear hcp
    go_wp2_with (at_builtin; refine wpList_append_own _ rfl _ _ 34 rfl wA.heap.size 53 i0 _ 3 40 Tryz.underlying34 hi hz0 hz1 hz2 rfl (by decide) (.slice o1 p c1) p (enCs (T.take p)) rfl HR1.out ⟨g, (p + 1) * 3, none⟩ (T.length - (p + 1)) (c - (p + 1)) (enCs (T.drop (p + 1))) rfl HL2.out (HT2.out hbw1) (enCs_one _) (by unfold maxLen; omega) (by omega) hz1' ?_; intro v3 w3 hown3 hgrow3 _; obtain ⟨o3, c3, rfl⟩ := ownsRow_shape hown3)
    go_ret2
    have hb3 : Below wA.heap.size wA w3 := hb1.grown hgrow3 (by omega) (fun k hk => (World.ownsRow.lt HR1.out k hk).1)
    refine ⟨⟨_, rfl, ?_⟩, hbA.trans (hb3.mono hbA.size)⟩
    unfold ERow
    rw [HSM.out, HSL.out]
    exact ownsRow_base hown3 hbA.size

set_option maxHeartbeats 800000 in
theorem done_nil (en : En) (w : World) :
    Calls Tryz.prog 98 #[.slice none 0 0, .agg #[.int .i64 1, .int .i64 0, .string en.bt, .int .i64 en.ac, .string en.tx]] w fun e w' => (∃ v', e = .returned (.tuple #[v', .bool true]) ∧ ERow w' w.heap.size v' [en]) ∧ Below w.heap.size w w' := by
  obtain ⟨i0, hi, hz0, hz1, hz2⟩ := info_parts infoEntry
  obtain ⟨wA, hwA⟩ : ∃ wA, wA = w.alloc (.cells #[.int .i64 1, .int .i64 0, .string en.bt, .int .i64 en.ac, .string en.tx] 169) := ⟨_, rfl⟩
  have HWA : Hid (wA = w.alloc (.cells #[.int .i64 1, .int .i64 0, .string en.bt, .int .i64 en.ac, .string en.tx] 169)) := hwA
  have hbA : Below w.heap.size w wA := by rw [hwA]; exact below_alloc _ _
  have hvA : wA.heap[w.heap.size]? = some (.cells #[.int .i64 1, .int .i64 0, .string en.bt, .int .i64 en.ac, .string en.tx] 169 (0, 0)) := by rw [hwA]; exact heap_alloc_new w _
  have hzA := lt_of_block hvA
  clear hwA
  go_enter Tryz.func98, Tryz.ntmps98
  go_upto_region 4 with (at_builtin; refine wpList_append_own_none rfl _ _ 34 rfl 0 53 i0 3 Tryz.underlying34 hi (.slice none 0 0) 0 [] rfl (World.ownsRow_nil _ _ _ _) rfl ?_)
  rw [← HWA.out]
  have f2 := cell_of_row wA w.heap.size 2 _ _ _ hvA
  have f3 := cell_of_row wA w.heap.size 3 _ _ _ hvA
  have f4 := cell_of_row wA w.heap.size 4 _ _ _ hvA
  go_upto_region 5 with (at_builtin; refine wpList_append_own _ rfl _ _ 34 rfl wA.heap.size 53 i0 _ 3 40 Tryz.underlying34 hi hz0 hz1 hz2 rfl (by decide) (.slice none 0 0) 0 [] rfl (World.ownsRow_nil _ _ _ _) ⟨wA.heap.size, 0, none⟩ 1 1 (enC en) rfl rfl (World.news_of_block (heap_alloc_new wA _)) (enC_one _) (by unfold maxLen; omega) (by omega) (by simp) ?_; intro v2 w2 hown2 hgrow2 _)
  obtain ⟨o2, c2, rfl⟩ := ownsRow_shape hown2
  have hb2 : Below wA.heap.size wA w2 := ((Below.refl _ _).alloc (Nat.le_refl _) _).grown hgrow2 (by simp) (fun k hk => by simp [Value.ownBlock] at hk)
  have hv2 := (hb2.block _ hzA).trans hvA
  have g1 := cell_of_row w2 w.heap.size 1 _ _ _ hv2
  have HR2 : Hid (w2.ownsRow wA.heap.size 53 3 (.slice o2 1 c2) 1 (enC en)) := hown2
  clear hown2 hgrow2 f2 f3 f4 hv2
  go_wp2_with (at_builtin; refine wpList_append_own_none rfl _ _ 34 rfl wA.heap.size 53 i0 3 Tryz.underlying34 hi (.slice o2 1 c2) 1 (enC en) rfl HR2.out rfl ?_)
  go_ret2
  refine ⟨⟨_, rfl, ?_⟩, hbA.trans (hb2.mono hbA.size)⟩
  exact ownsRow_base HR2.out hbA.size
/-- A write, done to a table by the keeper. -/
theorem keepDone_any (T T' : List En) (x : Wr) (v : Value) (B : Nat) (w : World) (h : ERow w B v T) (hd : doW T x = some T') (h256 : T.length ≤ 256) :
    Calls Tryz.prog 98 #[v, .agg #[.int .i64 x.kd, .int .i64 x.pl, .string x.en.bt, .int .i64 x.en.ac, .string x.en.tx]] w fun e w' => (∃ v', e = .returned (.tuple #[v', .bool true]) ∧ ERow w' w.heap.size v' T') ∧ Below w.heap.size w w' := by
  obtain ⟨kd, pl, en⟩ := x
  unfold doW at hd
  simp only [] at hd ⊢
  split at hd
  · rename_i hk
    obtain ⟨rfl, h0, h1⟩ := hk
    obtain ⟨p, rfl⟩ := Int.eq_ofNat_of_zero_le h0
    simp only [Int.toNat_natCast, Option.some.injEq] at hd
    subst hd
    rcases h.2 with ⟨rfl, h3⟩ | ⟨g, c, cur, rfl, _⟩
    · obtain rfl : T = [] := List.length_eq_zero_iff.1 h3
      obtain rfl : p = 0 := by simp at h1; omega
      exact done_nil en w
    · exact done_in T en p g c B w h (by omega) h256
  · split at hd
    · rename_i hk
      obtain ⟨rfl, h0, h1, h2⟩ := hk
      obtain ⟨p, rfl⟩ := Int.eq_ofNat_of_zero_le h0
      simp only [Int.toNat_natCast, Option.some.injEq] at hd
      subst hd
      obtain rfl := (enEq_iff _ _).1 h2
      rcases h.2 with ⟨rfl, h3⟩ | ⟨g, c, cur, rfl, _⟩
      · omega
      · exact done_out T p g c B w h (by omega) h256
    · cases hd
end Go.Proofs.YtgkiknfpcbcnnabGreat
