import Derived.Test.YtkdcjcemeipkjaaPref
namespace Go.Proofs.Ytkdcjcemeipkjaa
open Go.RowKit
set_option maxRecDepth 20000

theorem infoTerm : (Try.prog.info? 63).map (fun i => (i.zero, i.size, i.bytes)) = some (some (.agg #[.bool false, .bool false, .int .i64 0, .int .i64 0]), 4, 24) := by kernel_rfl
theorem infoPart : (Try.prog.info? 35).map (fun i => (i.zero, i.size, i.bytes)) = some (some (.agg #[.int .i64 0, .int .i64 0, .int .i64 0, .slice none 0 0]), 4, 48) := by kernel_rfl

theorem ownsRow_shape {w : World} {base : Nat} {e : TypeId} {size : Nat} {v : Value} {n : Nat} {xs : List Value} (h : w.ownsRow base e size v n xs) : ∃ ao cap, v = .slice ao n cap := by
  rcases h.2 with ⟨rfl, rfl⟩ | ⟨g, cap, cur, rfl, _⟩
  · exact ⟨none, 0, rfl⟩
  · exact ⟨_, _, rfl⟩

theorem ownsRow_base {w : World} {b b' : Nat} {e : TypeId} {size : Nat} {v : Value} {n : Nat} {xs : List Value} (h : w.ownsRow b e size v n xs) (hb : b' ≤ b) : w.ownsRow b' e size v n xs := by
  refine ⟨h.1, ?_⟩
  rcases h.2 with h | ⟨g, cap, cur, hv, hg, r⟩
  · exact .inl h
  · exact .inr ⟨g, cap, cur, hv, by omega, r⟩

/-- Behind a call that leaves all old blocks alone, what is owned stays owned. -/
theorem ownsRow_below {w w' : World} {b : Nat} {e : TypeId} {size : Nat} {v : Value} {n : Nat} {xs : List Value} (h : w.ownsRow b e size v n xs) (hb : Below w.heap.size w w') : w'.ownsRow b e size v n xs := by
  refine ⟨h.1, ?_⟩
  rcases h.2 with h | ⟨g, cap, cur, hv, hg, hh, r⟩
  · exact .inl h
  · exact .inr ⟨g, cap, cur, hv, hg, by rw [hb.block g (lt_of_block hh)]; exact hh, r⟩

theorem rdTerms_stop (s : ByteArray) (k : Int) (n : Nat) (f : Bool) (a : Nat) (h : ¬ (a < s.size ∧ mOK (byt s a) k f = true ∧ a + 1 + (vB (mWide (byt s a))).toNat ≤ s.size)) : rdTerms s k n f a = none := by
  cases n with
  | zero => rfl
  | succ n => unfold rdTerms; simp only []; rw [if_neg h]

theorem rdTerms_last (s : ByteArray) (k : Int) (n : Nat) (f : Bool) (a : Nat) (h : a < s.size ∧ mOK (byt s a) k f = true ∧ a + 1 + (vB (mWide (byt s a))).toNat ≤ s.size) (hl : mLast (byt s a) = true) :
    rdTerms s k (n + 1) f a = some ([⟨mAnd (byt s a), mWide (byt s a), mOp (byt s a) k, num s (a + 1) (vB (mWide (byt s a))).toNat⟩], a + 1 + (vB (mWide (byt s a))).toNat) := by
  unfold rdTerms; simp only []; rw [if_pos h, if_pos hl]

theorem rdTerms_more (s : ByteArray) (k : Int) (n : Nat) (f : Bool) (a : Nat) (h : a < s.size ∧ mOK (byt s a) k f = true ∧ a + 1 + (vB (mWide (byt s a))).toNat ≤ s.size) (hl : mLast (byt s a) = false) :
    rdTerms s k (n + 1) f a = (rdTerms s k n false (a + 1 + (vB (mWide (byt s a))).toNat)).map fun r => (⟨mAnd (byt s a), mWide (byt s a), mOp (byt s a) k, num s (a + 1) (vB (mWide (byt s a))).toNat⟩ :: r.1, r.2) := by
  conv => lhs; unfold rdTerms
  simp only []; rw [if_pos h, if_neg (by simp [hl])]

theorem cell_four_new (w : World) (a b c d : Value) (t : TypeId) : ∀ j u, [a, b, c, d][j]? = some u → (w.alloc (.cells #[a, b, c, d] t)).cell? ((⟨w.heap.size, 0, none⟩ : Addr).add j) = some u := by
  intro j u hj
  match j, hj with
  | 0, hj => simp at hj; subst hj; simp [Addr.add]
  | 1, hj => simp at hj; subst hj; simp [Addr.add]
  | 2, hj => simp at hj; subst hj; simp [Addr.add]
  | 3, hj => simp at hj; subst hj; simp [Addr.add]
  | n + 4, hj => simp at hj

theorem tcell_one (t : Tm) : ∀ u ∈ tcell t, u.oneCell' = true := by
  intro u hu
  simp only [tcell, List.mem_cons, List.not_mem_nil, or_false] at hu
  rcases hu with rfl | rfl | rfl | rfl <;> rfl

/-- What has been gathered, and what is still to come. -/
def Gath (s : ByteArray) (k : Int) (a0 : Nat) (ts : List Tm) (q : Nat) : Prop :=
  rdTerms s k 8 true a0 = (rdTerms s k (8 - ts.length) ts.isEmpty q).map fun r => (ts ++ r.1, r.2)

theorem Gath.start (s : ByteArray) (k : Int) (a0 : Nat) : Gath s k a0 [] a0 := by
  unfold Gath
  simp only [List.length_nil, List.isEmpty_nil, List.nil_append]
  cases rdTerms s k 8 true a0 <;> rfl

theorem Gath.stop {s : ByteArray} {k : Int} {a0 : Nat} {ts : List Tm} {q : Nat} (h : Gath s k a0 ts q) (hs : ts.length = 8 ∨ ¬ (q < s.size ∧ mOK (byt s q) k ts.isEmpty = true ∧ q + 1 + (vB (mWide (byt s q))).toNat ≤ s.size)) :
    rdTerms s k 8 true a0 = none := by
  rw [h]
  rcases hs with h8 | hs
  · rw [h8]; rfl
  · rw [rdTerms_stop _ _ _ _ _ hs]; rfl

theorem Gath.last {s : ByteArray} {k : Int} {a0 : Nat} {ts : List Tm} {q : Nat} (h : Gath s k a0 ts q) (h8 : ts.length < 8) (hs : q < s.size ∧ mOK (byt s q) k ts.isEmpty = true ∧ q + 1 + (vB (mWide (byt s q))).toNat ≤ s.size) (hl : mLast (byt s q) = true) :
    rdTerms s k 8 true a0 = some (ts ++ [⟨mAnd (byt s q), mWide (byt s q), mOp (byt s q) k, num s (q + 1) (vB (mWide (byt s q))).toNat⟩], q + 1 + (vB (mWide (byt s q))).toNat) := by
  rw [h]
  obtain ⟨n, hn⟩ : ∃ n, 8 - ts.length = n + 1 := ⟨7 - ts.length, by omega⟩
  rw [hn, rdTerms_last _ _ _ _ _ hs hl]; rfl

theorem Gath.more {s : ByteArray} {k : Int} {a0 : Nat} {ts : List Tm} {q : Nat} (h : Gath s k a0 ts q) (h8 : ts.length < 8) (hs : q < s.size ∧ mOK (byt s q) k ts.isEmpty = true ∧ q + 1 + (vB (mWide (byt s q))).toNat ≤ s.size) (hl : mLast (byt s q) = false) :
    Gath s k a0 (ts ++ [⟨mAnd (byt s q), mWide (byt s q), mOp (byt s q) k, num s (q + 1) (vB (mWide (byt s q))).toNat⟩]) (q + 1 + (vB (mWide (byt s q))).toNat) := by
  unfold Gath
  rw [h]
  obtain ⟨n, hn⟩ : ∃ n, 8 - ts.length = n + 1 := ⟨7 - ts.length, by omega⟩
  have hn' : 8 - (ts ++ [(⟨mAnd (byt s q), mWide (byt s q), mOp (byt s q) k, num s (q + 1) (vB (mWide (byt s q))).toNat⟩ : Tm)]).length = n := by simp; omega
  have he : (ts ++ [(⟨mAnd (byt s q), mWide (byt s q), mOp (byt s q) k, num s (q + 1) (vB (mWide (byt s q))).toNat⟩ : Tm)]).isEmpty = false := by simp
  rw [hn', he, hn, rdTerms_more _ _ _ _ _ hs hl]
  cases rdTerms s k n false (q + 1 + (vB (mWide (byt s q))).toNat) <;> simp

theorem opm (m k : Int) (h0 : 0 ≤ m) (h1 : m ≤ 255) : bits BinOp.and IntKind.i64 m (opM k) = mOp m k := by
  unfold mOp opM; split
  · exact and3 m h0 h1
  · exact and7 m h0 h1

theorem ownsTerms_snoc {w : World} {b : Nat} {v : Value} {ts : List Tm} {t : Tm} (h : w.ownsRow b 63 4 v (ts.length + 1) (tcells ts ++ tcell t)) : w.ownsRow b 63 4 v (ts ++ [t]).length (tcells (ts ++ [t])) := by
  rw [tcells_snoc, List.length_append]; exact h

theorem below_append {w wr w1 : World} {o : Obj} {e : TypeId} {size : Nat} {v : Value} {n : Nat} {xs : List Value} (hb : Below w.heap.size w wr) (hown : wr.ownsRow w.heap.size e size v n xs) (hg : (wr.alloc o).grownBy w1 v.ownBlock) : Below w.heap.size w w1 :=
  ((hb.alloc (by have := hb.size; omega) o).grown hg (by have := hb.size; simp; omega) (fun k hk => (hown.lt k hk).1))

def TermsPost (s : ByteArray) (k : Int) (a0 : Nat) (B : Nat) (e : Ending) (w' : World) : Prop :=
  match rdTerms s k 8 true a0 with
  | some (ts, n) => ∃ v, e = .returned (.tuple #[v, .int .i64 n, .bool true]) ∧ w'.ownsRow B 63 4 v ts.length (tcells ts)
  | none => ∃ n, e = .returned (.tuple #[.slice none 0 0, .int .i64 n, .bool false])

theorem TermsPost.no {s : ByteArray} {k : Int} {a0 B : Nat} {w' : World} (h : Hid (rdTerms s k 8 true a0 = none)) (n : Int) : TermsPost s k a0 B (.returned (.tuple #[.slice none 0 0, .int .i64 n, .bool false])) w' := by
  unfold TermsPost; rw [h.out]; exact ⟨n, rfl⟩

theorem TermsPost.yes {s : ByteArray} {k : Int} {a0 B : Nat} {w' : World} {ts : List Tm} {n : Nat} {v : Value} {n' : Int} (h : Hid (rdTerms s k 8 true a0 = some (ts, n))) (hn : n' = n) (ho : w'.ownsRow B 63 4 v ts.length (tcells ts)) :
    TermsPost s k a0 B (.returned (.tuple #[v, .int .i64 n', .bool true])) w' := by
  unfold TermsPost; rw [h.out]; subst hn; exact ⟨v, rfl, ho⟩

set_option maxHeartbeats 1600000 in
theorem readTerms_any (s : ByteArray) (a k : Int) (w : World) (h0 : 0 ≤ a) (hs : s.size ≤ 140737488351232) (ha : a ≤ s.size) :
    Calls Try.prog 48 #[.string s, .int .i64 a, .int .i64 k] w fun e w' => Below w.heap.size w w' ∧ TermsPost s k a.toNat w.heap.size e w' := by
  obtain ⟨i0, hi, hz0, hz1, hz2⟩ := info_parts infoTerm
  obtain ⟨a0, rfl⟩ := Int.eq_ofNat_of_zero_le h0
  rw [Int.toNat_natCast]
  go_enter Try.func48, Try.ntmps48
  go_wp2
  go_loopw [9, 1] (fun v a wr => ∃ (ts : List Tm) (q : Nat), ts.length ≤ 8 ∧ a = .int .i64 q ∧ q ≤ s.size ∧ wr.ownsRow w.heap.size 63 4 v ts.length (tcells ts) ∧ Below w.heap.size w wr ∧ Gath s k a0 ts q)
    (fun _ a _ => s.size - (intOf a).toNat)
  case atStart => exact ⟨[], a0, by simp, rfl, by omega, World.ownsRow_nil _ _ _ _, Below.refl _ _, Gath.start _ _ _⟩
  case round =>
    obtain ⟨ts, q, hl, rfl, hq, hown, hbel, hg⟩ := hrel
    obtain ⟨ao, cap, rfl⟩ := ownsRow_shape hown
    have m0 := byt_nonneg s q
    have m1 := byt_le s q
    have hE : ((ts.length : Int) == 0) = ts.isEmpty := by cases ts <;> simp; omega
    by_cases h8 : ts.length < 8
    · by_cases h1 : (q : Int) < s.size
      · have hd1 : decide ((q : Int) < s.size) = true := by simpa using h1
        cases hm : mOK (byt s q) k ts.isEmpty
        · have hstop := hg.stop (.inr (by rw [hm]; simp))
          have HS : Hid (rdTerms s k 8 true a0 = none) := hstop
          clear hstop
          go_wp2_with (first
            | (go_at_call 44; refine (byteAt_any _ _ _ (by omega) hs).mono ?_; rintro e w' ⟨rfl, rfl⟩)
            | (go_at_call 66; refine (marksStand_any _ _ _ _ (by omega) (by omega)).mono ?_; rintro e w' ⟨rfl, rfl⟩))
          go_ret3
          exact ⟨hbel, TermsPost.no HS _⟩
        · have v0 := vB_bd (mWide (byt s q))
          have e16 := and16 (byt s q) m0 m1
          by_cases h3 : (q : Int) + 1 + vB (mWide (byt s q)) ≤ s.size
          · have hin : q < s.size ∧ mOK (byt s q) k ts.isEmpty = true ∧ q + 1 + (vB (mWide (byt s q))).toNat ≤ s.size := ⟨by omega, hm, by omega⟩
            have e64 := and64 (byt s q) m0 m1
            have e128 := and128 (byt s q) m0 m1
            have eop := opm (byt s q) k m0 m1
            have hz := hbel.size
            cases hL : mLast (byt s q)
            · have HG : Hid (Gath s k a0 (ts ++ [⟨mAnd (byt s q), mWide (byt s q), mOp (byt s q) k, num s (q + 1) (vB (mWide (byt s q))).toNat⟩]) (q + 1 + (vB (mWide (byt s q))).toNat)) := hg.more h8 hin hL
              clear hg hin
              go_wp2_with (first
                | (go_at_call 44; refine (byteAt_any _ _ _ (by omega) hs).mono ?_; rintro e w' ⟨rfl, rfl⟩)
                | (go_at_call 66; refine (marksStand_any _ _ _ _ (by omega) (by omega)).mono ?_; rintro e w' ⟨rfl, rfl⟩)
                | (go_at_call 67; refine (valueBytes_any _ _).mono ?_; rintro e w' ⟨rfl, rfl⟩)
                | (go_at_call 68; refine (opMarks_any _ _).mono ?_; rintro e w' ⟨rfl, rfl⟩)
                | (go_at_call 64; refine (readNumber_ok _ _ _ _ (by omega) hs (by omega) (by omega) (by omega) (by omega)).mono ?_; rintro e w' ⟨rfl, rfl⟩)
                | (at_builtin; refine wpList_append_own _ rfl _ _ 33 rfl w.heap.size 63 i0 _ 4 24 Try.underlying33 hi hz0 hz1 hz2 rfl (by decide) _ _ _ rfl (hown.alloc _) ⟨wr.heap.size, 0, none⟩ 1 1 (tcell ⟨mAnd (byt s q), mWide (byt s q), mOp (byt s q) k, num s (q + 1) (vB (mWide (byt s q))).toNat⟩) rfl rfl (cell_four_new _ _ _ _ _ _) (tcell_one _) (by unfold maxLen; omega) (by omega) (by simp; omega) ?_; intro v' w1 hown' hgrow _; have hown2 := ownsTerms_snoc hown'; have hbel2 := below_append hbel hown hgrow; clear hown' hgrow hown hbel))
              go_roundw
              case rel => exact ⟨_, _, by simp; omega, by go_num, by omega, hown2, hbel2, HG.out⟩
              case measure => simp [intOf]; omega
            · have HG : Hid (rdTerms s k 8 true a0 = some (ts ++ [⟨mAnd (byt s q), mWide (byt s q), mOp (byt s q) k, num s (q + 1) (vB (mWide (byt s q))).toNat⟩], q + 1 + (vB (mWide (byt s q))).toNat)) := hg.last h8 hin hL
              clear hg hin
              go_wp2_with (first
                | (go_at_call 44; refine (byteAt_any _ _ _ (by omega) hs).mono ?_; rintro e w' ⟨rfl, rfl⟩)
                | (go_at_call 66; refine (marksStand_any _ _ _ _ (by omega) (by omega)).mono ?_; rintro e w' ⟨rfl, rfl⟩)
                | (go_at_call 67; refine (valueBytes_any _ _).mono ?_; rintro e w' ⟨rfl, rfl⟩)
                | (go_at_call 68; refine (opMarks_any _ _).mono ?_; rintro e w' ⟨rfl, rfl⟩)
                | (go_at_call 64; refine (readNumber_ok _ _ _ _ (by omega) hs (by omega) (by omega) (by omega) (by omega)).mono ?_; rintro e w' ⟨rfl, rfl⟩)
                | (at_builtin; refine wpList_append_own _ rfl _ _ 33 rfl w.heap.size 63 i0 _ 4 24 Try.underlying33 hi hz0 hz1 hz2 rfl (by decide) _ _ _ rfl (hown.alloc _) ⟨wr.heap.size, 0, none⟩ 1 1 (tcell ⟨mAnd (byt s q), mWide (byt s q), mOp (byt s q) k, num s (q + 1) (vB (mWide (byt s q))).toNat⟩) rfl rfl (cell_four_new _ _ _ _ _ _) (tcell_one _) (by unfold maxLen; omega) (by omega) (by simp; omega) ?_; intro v' w1 hown' hgrow _; have hown2 := ownsTerms_snoc hown'; have hbel2 := below_append hbel hown hgrow; clear hown' hgrow hown hbel))
              go_ret3
              exact ⟨hbel2, TermsPost.yes HG (by omega) hown2⟩
          · have hstop := hg.stop (.inr (by omega))
            have HS : Hid (rdTerms s k 8 true a0 = none) := hstop
            clear hstop
            go_wp2_with (first
              | (go_at_call 44; refine (byteAt_any _ _ _ (by omega) hs).mono ?_; rintro e w' ⟨rfl, rfl⟩)
              | (go_at_call 66; refine (marksStand_any _ _ _ _ (by omega) (by omega)).mono ?_; rintro e w' ⟨rfl, rfl⟩)
              | (go_at_call 67; refine (valueBytes_any _ _).mono ?_; rintro e w' ⟨rfl, rfl⟩)
              | (go_at_call 64; refine (readNumber_no _ _ _ _ (by omega) hs (by omega) (by omega) (by omega) (by omega)).mono ?_; rintro e w' ⟨rfl, rfl⟩))
            go_ret3
            exact ⟨hbel, TermsPost.no HS _⟩
      · have hd1 : decide ((q : Int) < s.size) = false := by simpa using h1
        have hstop := hg.stop (.inr (by omega))
        have HS : Hid (rdTerms s k 8 true a0 = none) := hstop
        clear hstop
        go_wp2_with (go_at_call 44; refine (byteAt_any _ _ _ (by omega) hs).mono ?_; rintro e w' ⟨rfl, rfl⟩)
        go_ret3
        exact ⟨hbel, TermsPost.no HS _⟩
    · have hstop := hg.stop (.inl (by omega))
      have HS : Hid (rdTerms s k 8 true a0 = none) := hstop
      clear hstop
      go_wp2
      go_ret3
      exact ⟨hbel, TermsPost.no HS _⟩
end Go.Proofs.Ytkdcjcemeipkjaa
