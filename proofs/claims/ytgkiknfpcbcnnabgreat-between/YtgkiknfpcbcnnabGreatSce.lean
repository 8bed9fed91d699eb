import Derived.Test.YtgkiknfpcbcnnabGreatScd
import Derived.Test.YtgkiknfpcbcnnabGreatSeg7
import Derived.Test.YtgkiknfpcbcnnabGreatGr
import Derived.Deep.RegionHeld3
import Derived.Test.YtgkiknfpcbcnnabGreatTba
import Derived.Test.YtgkiknfpcbcnnabGreatGp
namespace Go.Proofs.YtgkiknfpcbcnnabGreat
open Go.RowKit
set_option maxRecDepth 20000
def hdV (h : Hd) : Value := .agg #[.int .i64 h.ds, .int .i64 h.sr, .int .i64 h.pr, .int .i64 h.po, .int .i64 h.fl, .bool h.la]

theorem RunI.tel {X : XGate} {B : Nat} {w : World} {r x : Nat} {c : Cf} {lk : Bool} {hd : Hd} {gs : Nat → Option Obj} {rts : List Rt} {rls : List Rl} (h : RunI X B w r x c lk hd gs rts rls) : Tel rls := by
  obtain ⟨tv, rv, lv, st, F, hj, hs, ht⟩ := h.ex
  exact (X.ok hj.inv).tel.perm hs.rl
/-- What Status tells of a gate that is played. -/
theorem RunI.status {X : XGate} {B : Nat} {w : World} {r x : Nat} {c : Cf} {lk : Bool} {hd : Hd} {gs : Nat → Option Obj} {rts : List Rt} {rls : List Rl} (h : RunI X B w r x c lk hd gs rts rls) :
    Calls Tryz.prog 10 #[.pointer (some ⟨x, 0, none⟩)] w fun e w' => ∃ ao cap, e = .returned (.slice ao rls.length cap) ∧ TRow w' w.heap.size (.slice ao rls.length cap) (stats ⟨c, rts, rls⟩) ∧ RunI X B w' r x c lk hd gs rts rls ∧ Below B w w' := by
  obtain ⟨tv, rv, lv, st, F, hj, hs, htt⟩ := h.ex
  refine (X.status hj.inv).mono ?_
  rintro e w' ⟨v, F', rfl, ht, hi, hF, _, ho⟩
  obtain ⟨hj', hb⟩ := hj.call ho hi hF
  rw [hs.stats (X.ok hj.inv).tel] at ht
  obtain ⟨ao, cap, rfl⟩ := ownsRow_shape ht
  have hl : (stats ⟨c, rts, rls⟩).length = rls.length := stats_len _
  rw [hl] at ht ⊢
  exact ⟨ao, cap, rfl, ht, ⟨tv, rv, lv, st, F', hj', hs, htt⟩, hb⟩
/-- What Table and Lookup tell of it. -/
theorem RunI.table {X : XGate} {B : Nat} {w : World} {r x : Nat} {c : Cf} {lk : Bool} {hd : Hd} {gs : Nat → Option Obj} {rts : List Rt} {rls : List Rl} (h : RunI X B w r x c lk hd gs rts rls) :
    Calls Tryz.prog 15 #[.pointer (some ⟨x, 0, none⟩)] w fun e w' => ∃ ao cap, e = .returned (.slice ao (tabS ⟨c, rts, rls⟩).length cap) ∧ ERow w' w.heap.size (.slice ao (tabS ⟨c, rts, rls⟩).length cap) (tabS ⟨c, rts, rls⟩) ∧ RunI X B w' r x c lk hd gs rts rls ∧ Below B w w' := by
  obtain ⟨tv, rv, lv, st, F, hj, hs, htt⟩ := h.ex
  refine (X.table hj.inv).mono ?_
  rintro e w' ⟨v, F', rfl, ht, hi, hF, _, ho⟩
  obtain ⟨hj', hb⟩ := hj.call ho hi hF
  rw [hs.tabS (X.ok hj.inv).tel] at ht
  obtain ⟨ao, cap, rfl⟩ := ownsRow_shape ht
  exact ⟨ao, cap, rfl, ht, ⟨tv, rv, lv, st, F', hj', hs, htt⟩, hb⟩
theorem RunI.lookup {X : XGate} {B : Nat} {w : World} {r x : Nat} {c : Cf} {lk : Bool} {hd : Hd} {gs : Nat → Option Obj} {rts : List Rt} {rls : List Rl} (h : RunI X B w r x c lk hd gs rts rls) (k : Hd) :
    Calls Tryz.prog 18 #[.pointer (some ⟨x, 0, none⟩), hdV k] w fun e w' => e = .returned (.tuple #[.int .i64 (lkA (tabS ⟨c, rts, rls⟩) k), .int .i64 (lkE k)]) ∧ RunI X B w' r x c lk hd gs rts rls ∧ Below B w w' := by
  obtain ⟨tv, rv, lv, st, F, hj, hs, htt⟩ := h.ex
  refine (X.lookup k hj.inv).mono ?_
  rintro e w' ⟨F', rfl, hi, hF, ho⟩
  obtain ⟨hj', hb⟩ := hj.call ho hi hF
  rw [hs.tabS (X.ok hj.inv).tel]
  exact ⟨rfl, ⟨tv, rv, lv, st, F', hj', hs, htt⟩, hb⟩
def gs0 (_ : Nat) : Option Obj := none
/-- A gate that is just made. -/
theorem RunI.first {X : XGate} {B : Nat} {w : World} {x : Nat} {c : Cf} {lk : Bool} {hd : Hd} {F : Nat → Prop} (hk : lk = true → hdOK hd = true) (hi : X.Inv w x ⟨c, [], []⟩ F) (hz : B ≤ w.heap.size) (hF : ∀ b, F b → B ≤ b ∧ b < w.heap.size) : RunI X B (w.alloc (.cells (runC x c (.slice none 0 0) (.slice none 0 0) lk hd ⟨.slice none 0 0, []⟩) 36)) w.heap.size x c lk hd gs0 [] [] := by
  refine ⟨⟨.slice none 0 0, []⟩, .slice none 0 0, .slice none 0 0, ⟨c, [], []⟩, F, ⟨heap_alloc_new w _, World.ownsRow_nil _ _ _ _, World.ownsRow_nil _ _ _ _, X.same hi (by simp) (fun b hf => heap_alloc_old w _ (hF b hf).2), hz, fun hf => Nat.lt_irrefl _ (hF _ hf).2, fun b hf => (hF b hf).1, ?_, ?_, fun _ => ERow.nil _ _, ?_, hk, ?_⟩, Sim.refl _, fun _ => rfl⟩
  · intro b hb; simp [Value.ownBlock] at hb
  · intro b hb; simp [Value.ownBlock] at hb
  · intro _ b hb; simp [Value.ownBlock] at hb
  · intro b o hg; cases hg

set_option maxHeartbeats 1600000 in
theorem begin_any (X : XGate) {lk : Bool} (HTD : Hid (ToldOK X lk)) (c : Cf) (hd : Hd) (w : World) (h : CfI c) (hk : lk = true → hdOK hd = true) :
    Calls Tryz.prog 20 #[cfV c, .bool lk, hdV hd] w fun e w' => ∃ r x, e = .returned (.pointer (some ⟨r, 0, none⟩)) ∧ RunI X w.heap.size w' r x (fitC c) lk hd gs0 [r0] [q0] ∧ Below w.heap.size w w' := by
  have HF : Hid (∀ w, Calls Tryz.prog 42 #[cfV c] w fun e w' => e = .returned (cfV (fitC c)) ∧ Below w.heap.size w w') := fun w => fit_any c w h
  have hc := fitC_ok c
  generalize fitC c = d at *
  have HN : Hid (∀ w, Calls Tryz.prog 43 #[cfV d] w fun e w' => (∃ x F, e = .returned (.tuple #[ptrV x, .int .i64 0]) ∧ X.Inv w' x ⟨d, [], []⟩ F ∧ ∀ b, F b → w.heap.size ≤ b) ∧ Below w.heap.size w w') := by
    intro w
    refine (X.new d w).mono ?_
    rintro e w' ⟨h1, h2⟩
    rw [if_pos hc] at h1
    exact ⟨h1, h2⟩
  have HC : Hid (cfOK d = true) := hc
  have HKK : Hid (lk = true → hdOK hd = true) := hk
  clear hc h hk
  unfold cfV hdV
  unfold cfV at HF HN
  unfold ptrV at HN
  go_enter Tryz.func20, Tryz.ntmps20
  go_wp2_with fail
  refine (HF.out _).mono ?_
  rintro e w1 ⟨rfl, hb1⟩
  have hbw1 : Below w.heap.size w w1 := ((below_alloc w _).alloc (by simp) _).trans (hb1.mono (by simp; omega))
  have hhd : w1.heap[w.heap.size + 1]? = some (.cells #[.int .i64 hd.ds, .int .i64 hd.sr, .int .i64 hd.pr, .int .i64 hd.po, .int .i64 hd.fl, .bool hd.la] 33 (0, 0)) := (hb1.block (w.heap.size + 1) (by simp)).trans (heap_new_at (w.alloc _) _ _ (by simp))
  clear hb1 HF
  go_wp2_with fail
  refine (HN.out _).mono ?_
  rintro e w2 ⟨⟨x, F, rfl, hinv, hF⟩, hb2⟩
  have hzw := hbw1.size
  have hzh := lt_of_block hhd
  have hbw2 : Below w.heap.size w w2 := (hbw1.alloc hzw _).trans (hb2.mono (by simp; omega))
  have hh2 := (hb2.block (w.heap.size + 1) (by simp; omega)).trans ((heap_alloc_old w1 _ hzh).trans hhd)
  have hd2 := (hb2.block w1.heap.size (by simp)).trans (heap_alloc_new w1 (.cells #[.int .i64 d.cp, .int .i64 d.bu, .int .i64 d.n0, .int .i64 d.n1, .int .i64 d.n2, .int .i64 d.n3] 24))
  have hFz : ∀ b, F b → w.heap.size ≤ b ∧ b < w2.heap.size := fun b hb => ⟨by have := hF b hb; simp at this; omega, X.lt hinv b hb⟩
  have HI : Hid (X.Inv w2 x ⟨d, [], []⟩ F) := hinv
  have HFz : Hid (∀ b, F b → w.heap.size ≤ b ∧ b < w2.heap.size) := hFz
  have HB2 : Hid (Below w.heap.size w w2) := hbw2
  clear hinv hF hFz hb2 hbw1 hhd HN hbw2
  have d0 := cell_of_row w2 w1.heap.size 0 _ _ _ hd2
  have e0 := cell_of_row w2 (w.heap.size + 1) 0 _ _ _ hh2
  have d1 := cell_of_row w2 w1.heap.size 1 _ _ _ hd2
  have e1 := cell_of_row w2 (w.heap.size + 1) 1 _ _ _ hh2
  have d2 := cell_of_row w2 w1.heap.size 2 _ _ _ hd2
  have e2 := cell_of_row w2 (w.heap.size + 1) 2 _ _ _ hh2
  have d3 := cell_of_row w2 w1.heap.size 3 _ _ _ hd2
  have e3 := cell_of_row w2 (w.heap.size + 1) 3 _ _ _ hh2
  have d4 := cell_of_row w2 w1.heap.size 4 _ _ _ hd2
  have e4 := cell_of_row w2 (w.heap.size + 1) 4 _ _ _ hh2
  have d5 := cell_of_row w2 w1.heap.size 5 _ _ _ hd2
  have e5 := cell_of_row w2 (w.heap.size + 1) 5 _ _ _ hh2
  clear hd2 hh2
  go_wp2_with fail
  have hr3 := RunI.first (lk := lk) (hd := hd) HKK.out HI.out HB2.out.size HFz.out
  unfold runC at hr3
  have hb3 := HB2.out.alloc HB2.out.size (.cells #[.pointer (some ⟨x, 0, none⟩), .int .i64 d.cp, .int .i64 d.bu, .int .i64 d.n0, .int .i64 d.n1, .int .i64 d.n2, .int .i64 d.n3, .slice none 0 0, .slice none 0 0, .bool true, .bool lk, .int .i64 hd.ds, .int .i64 hd.sr, .int .i64 hd.pr, .int .i64 hd.po, .int .i64 hd.fl, .bool hd.la, .slice none 0 0] 36)
  clear d0 d1 d2 d3 d4 d5 e0 e1 e2 e3 e4 e5
  generalize w2.alloc (.cells #[.pointer (some ⟨x, 0, none⟩), .int .i64 d.cp, .int .i64 d.bu, .int .i64 d.n0, .int .i64 d.n1, .int .i64 d.n2, .int .i64 d.n3, .slice none 0 0, .slice none 0 0, .bool true, .bool lk, .int .i64 hd.ds, .int .i64 hd.sr, .int .i64 hd.pr, .int .i64 hd.po, .int .i64 hd.fl, .bool hd.la, .slice none 0 0] 36) = w3 at *
  refine (route_any X HTD hr3 0 0 0 255 (by decide) (by decide) (by decide)).mono ?_
  rintro e w4 ⟨rfl, hr4, hb4⟩
  have HR4 : Hid (RunI X w.heap.size w4 w2.heap.size x d lk hd gs0 [r0] []) := hr4
  have HB4 : Hid (Below w.heap.size w w4) := hb3.trans (hb4)
  clear hr3 hr4 hb3 hb4 HB2 HI HFz
  go_wp2_with fail
  refine (say_any X HTD HR4.out 0 ⟨#[1, 0]⟩ 255 (by decide) (by rw [all_dst, decS_complete _ (by decide)]; rfl) (by decide) (by decide)).mono ?_
  rintro e w5 ⟨rfl, hr5, hb5⟩
  have HR5 : Hid (RunI X w.heap.size w5 w2.heap.size x d lk hd gs0 [r0] [q0]) := hr5
  have HB5 : Hid (Below w.heap.size w w5) := HB4.out.trans hb5
  clear hr5 hb5 HR4 HB4
  go_wp2_with fail
  refine (HR5.out.status).mono ?_
  rintro e w6 ⟨ao, cap, rfl, ht, hr6, hb6⟩
  rw [stats_begin HC.out] at ht
  have HR6 : Hid (RunI X w.heap.size w6 w2.heap.size x d lk hd gs0 [r0] [q0]) := hr6
  have HB6 : Hid (Below w.heap.size w w6) := HB5.out.trans hb6
  obtain ⟨k10, k9⟩ := hr6.look
  obtain ⟨g, rfl, hg, hcs⟩ := ht.get (by simp)
  obtain ⟨t0, t1, t2, t3⟩ := hcs 0 (by simp)
  simp only [q0, List.getElem_cons_zero, Nat.zero_mul, Nat.zero_add] at t0 t1 t2 t3
  clear hcs ht hr6 hb6 HR5 HB5 HC
  go_wp2_with fail
  go_ret
  exact ⟨w2.heap.size, x, rfl, HR6.out, HB6.out⟩

theorem IntsB.mono {w : World} {B B' : Nat} {ao : Option Addr} {n : Nat} (h : IntsB w B ao n) (hB : B ≤ B') : IntsB w B' ao n := by
  intro i hi
  obtain ⟨b, off, z, h1, h2, h3⟩ := h i hi
  exact ⟨b, off, z, h1, Nat.lt_of_lt_of_le h2 hB, h3⟩
theorem StepsB.mono {w : World} {B B' : Nat} {ao : Option Addr} {l : List StS} (h : StepsB w B ao l) (hB : B ≤ B') : StepsB w B' ao l := by
  intro i hi
  obtain ⟨⟨b, off, h1, h2, h3⟩, h4⟩ := h i hi
  exact ⟨⟨b, off, h1, Nat.lt_of_lt_of_le h2 hB, h3⟩, h4.pr, h4.nn, h4.ll, h4.ints.mono hB⟩

set_option maxHeartbeats 800000 in
theorem played_any (X : XGate) (c : Cf) (l : List StS) (ao : Option Addr) (cap : Nat) (w : World) (h : CfI c) (hl : l.length ≤ 9223372036854775807) (hs : StepsB w w.heap.size ao l) :
    Calls Tryz.prog 9 #[cfV c, .slice ao l.length cap] w fun e w' => ∃ r x rts rls, e = .returned (.pointer (some ⟨r, 0, none⟩)) ∧ RunI X (w.heap.size + 1) w' r x (fitC c) false ⟨0, 0, 0, 0, 0, false⟩ gs0 rts rls ∧ Below w.heap.size w w' := by
  have HB : Hid (∀ w, Calls Tryz.prog 20 #[cfV c, .bool false, .agg #[.int .i64 0, .int .i64 0, .int .i64 0, .int .i64 0, .int .i64 0, .bool false]] w fun e w' => ∃ r x, e = .returned (.pointer (some ⟨r, 0, none⟩)) ∧ RunI X w.heap.size w' r x (fitC c) false ⟨0, 0, 0, 0, 0, false⟩ gs0 [r0] [q0] ∧ Below w.heap.size w w') := fun w => begin_any X (told_off X) c ⟨0, 0, 0, 0, 0, false⟩ w h (fun h => by cases h)
  have HS : Hid (StepsB w w.heap.size ao l) := hs
  have HL : Hid (l.length ≤ 9223372036854775807) := hl
  clear h hs hl
  unfold cfV
  unfold cfV at HB
  go_enter Tryz.func9, Tryz.ntmps9
  go_wp2_with fail
  refine (HB.out _).mono ?_
  rintro e w1 ⟨r, x, rfl, hr1, hb1⟩
  simp only [World.size_alloc] at hr1 hb1
  have hb0 : Below w.heap.size w w1 := (below_alloc w _).trans (hb1.mono (Nat.le_succ _))
  have hs1 := (HS.out.below hb0).mono (Nat.le_succ _)
  have HP : Hid (Calls Tryz.prog 25 #[.pointer (some ⟨r, 0, none⟩), .slice ao l.length cap] w1 fun e w' => e = .returned (.tuple #[]) ∧ (∃ rts' rls', RunI X (w.heap.size + 1) w' r x (fitC c) false ⟨0, 0, 0, 0, 0, false⟩ gs0 rts' rls') ∧ Below (w.heap.size + 1) w1 w') := play_any X (told_off X) (ask_off X) hr1 l ao cap HL.out hs1
  have HB1 : Hid (Below w.heap.size w w1) := hb0
  clear hb0 hs1 hr1 hb1 HS HL HB
  go_wp2_with fail
  refine HP.out.mono ?_
  rintro e w2 ⟨rfl, ⟨rts, rls, hr2⟩, hb2⟩
  obtain ⟨k10, k9⟩ := hr2.look
  have HR2 : Hid (RunI X (w.heap.size + 1) w2 r x (fitC c) false ⟨0, 0, 0, 0, 0, false⟩ gs0 rts rls) := hr2
  have HB2 : Hid (Below w.heap.size w w2) := HB1.out.trans (hb2.mono (Nat.le_succ _))
  clear hr2 hb2 HB1 HP
  go_wp2_with fail
  go_ret
  exact ⟨r, x, rts, rls, rfl, HR2.out, HB2.out⟩
end Go.Proofs.YtgkiknfpcbcnnabGreat

namespace Go.Proofs.YtgkiknfpcbcnnabGreat
open Go.RowKit
set_option maxRecDepth 20000

theorem stats_fst (st : Gs) (i : Nat) (hi : i < (stats st).length) : ∃ h : i < (sortR st.rls).length, (stats st)[i].1 = (sortR st.rls)[i] := by
  have hl : (stats st).length = (sortR st.rls).length := by rw [stats_len, (sortR_perm st.rls).length_eq]
  refine ⟨by omega, ?_⟩
  simp only [stats, List.getElem_zip]
theorem stats_mem (st : Gs) (i : Nat) (hi : i < (stats st).length) : (stats st)[i].1 ∈ st.rls := by
  obtain ⟨h, e⟩ := stats_fst st i hi
  rw [e]
  exact (sortR_perm st.rls).mem_iff.1 (List.getElem_mem h)
theorem stats_erl {st : Gs} (ht : Tel st.rls) (i j : Nat) (hij : i < j) (hj : j < (stats st).length) : erl ((stats st)[i]'(by omega)).1 (stats st)[j].1 = true := by
  obtain ⟨h1, e1⟩ := stats_fst st i (by omega)
  obtain ⟨h2, e2⟩ := stats_fst st j hj
  rw [e1, e2]
  exact List.pairwise_iff_getElem.1 (sortR_sorted ht) i j h1 h2 hij
theorem cC_of {a b : Rl} (ha : (decS a.tx).isSome = true) (hb : (decS b.tx).isSome = true) : cC a.tx b.tx = cmpL (kyR a) (kyR b) ∧ cE a.tx b.tx = 0 := by
  unfold cC cE
  rw [ha, hb]
  refine ⟨?_, rfl⟩
  rw [if_pos (show (true && true) = true from rfl)]
  exact (parts_cmp _ _ (fun p hp => by obtain ⟨k, hk, rfl⟩ := List.mem_iff_getElem.1 hp; exact dS_isP a.tx k hk) (fun p hp => by obtain ⟨k, hk, rfl⟩ := List.mem_iff_getElem.1 hp; exact dS_isP b.tx k hk)).1
/-- What stands ahead in Status goes ahead by Compare, or is of a lower peer. -/
theorem erl_cmp {a b : Rl} (ha : (decS a.tx).isSome = true) (hb : (decS b.tx).isSome = true) (h : erl a b = true) : cE a.tx b.tx = 0 ∧ cC a.tx b.tx ≤ 0 ∧ (cC a.tx b.tx = 0 → a.pe < b.pe) := by
  obtain ⟨e1, e2⟩ := cC_of ha hb
  refine ⟨e2, ?_⟩
  rw [e1]
  have hb := cmpL_bd (kyR a) (kyR b)
  rcases (erl_iff a b).1 h with h | ⟨h, hp⟩
  · exact ⟨by omega, fun h0 => by omega⟩
  · have h0 : cmpL (kyR a) (kyR b) = 0 := by rw [h]; exact cmpL_self _
    exact ⟨by omega, fun _ => hp⟩
theorem text_size {s : ByteArray} (h : (decS s).isSome = true) : s.size ≤ 140737488351232 := by
  obtain ⟨ps, hp⟩ := Option.isSome_iff_exists.1 h
  obtain ⟨h1, h2⟩ := decS_sound s ps hp
  rw [← h2]
  exact (made_rule h1).2
def eqB (q s : Rl) : Bool := decide (q.pe = s.pe) && (decide (q.tx = s.tx) && decide (q.ac = s.ac))
theorem eqB_self (q : Rl) : eqB q q = true := by simp [eqB]
end Go.Proofs.YtgkiknfpcbcnnabGreat

namespace Go.Proofs.YtgkiknfpcbcnnabGreat
open Go.RowKit
set_option maxRecDepth 20000

set_option maxHeartbeats 1600000 in
theorem listed_any (r : Nat) (lo ao : Option Addr) (lc cap B : Nat) (rls : List Rl) (L : List (Rl × Int)) (w : World) (h8 : w.cell? ⟨r, 8, none⟩ = some (.slice lo rls.length lc)) (hrz : r < w.heap.size) (hin : ClIn w lo rls) (ht : TRow w B (.slice ao L.length cap) L) (h24 : rls.length ≤ 24)
    (hm : ∀ i (h : i < L.length), L[i].1 ∈ rls) (hd : ∀ q ∈ rls, (decS q.tx).isSome = true) (he : ∀ i (h : i + 1 < L.length), erl (L[i]'(Nat.lt_of_succ_lt h)).1 (L[i + 1]'h).1 = true) (hl : L.length = rls.length) :
    Calls Tryz.prog 11 #[.pointer (some ⟨r, 0, none⟩), .slice ao L.length cap] w fun e w' => e = .returned (.bool true) ∧ Below w.heap.size w w' := by
  have HL : Hid (L.length = rls.length) := hl
  have hl0 : ((L.length : Int) != (rls.length : Int)) = false := by rw [hl]; simp
  have h24L : L.length ≤ 24 := by omega
  clear hl
  have HIN : Hid (ClIn w lo rls) := hin
  have HT : Hid (TRow w B (.slice ao L.length cap) L) := ht
  have HM : Hid (∀ i (h : i < L.length), L[i].1 ∈ rls) := hm
  have HD : Hid (∀ q ∈ rls, (decS q.tx).isSome = true) := hd
  have HE : Hid (∀ i (h : i + 1 < L.length), erl (L[i]'(Nat.lt_of_succ_lt h)).1 (L[i + 1]'h).1 = true) := he
  clear hin ht hm hd he
  go_enter Tryz.func11, Tryz.ntmps11
  go_wp2_with fail
  go_loopw [5] (fun x wr => ∃ i : Nat, x = .int .i64 i ∧ i ≤ L.length ∧ Below w.heap.size w wr) (fun x _ => L.length - (intOf x).toNat)
  case atStart => exact ⟨0, rfl, Nat.zero_le _, Below.refl _ _⟩
  case round =>
    obtain ⟨i, rfl, hi, hbel⟩ := hrel
    by_cases hlt : i < L.length
    · obtain ⟨g, rfl, hgz, hcs⟩ := HT.out.get (by omega)
      have hmi := HM.out i hlt
      have HS : Hid (∀ j (h : j < L.length), w.cell? ⟨g, j * 4, none⟩ = some (.string L[j].1.tx) ∧ w.cell? ⟨g, j * 4 + 1, none⟩ = some (.int .i64 L[j].1.pe)) := fun j h => ⟨(hcs j h).1, (hcs j h).2.1⟩
      obtain ⟨s0, s1, s2, s3⟩ := hcs i hlt
      obtain ⟨sl, hsl⟩ : ∃ sl, sl = L[i].1 := ⟨_, rfl⟩
      rw [← hsl] at s0 s1 s2 hmi
      have HSL : Hid (sl = L[i].1) := hsl
      clear hsl hcs s3
      obtain ⟨stx, spe, sac⟩ := sl
      simp only [] at s0 s1 s2
      go_wp2_with fail
      go_loopw [6, 7] (fun b x wr2 => ∃ (k : Nat) (bb : Bool), x = .int .i64 k ∧ k ≤ rls.length ∧ b = .bool bb ∧ Hid (bb = (rls.take k).any fun q => eqB q ⟨stx, spe, sac⟩) ∧ Below w.heap.size w wr2) (fun _ x _ => rls.length - (intOf x).toNat)
      case atStart => exact ⟨0, false, rfl, Nat.zero_le _, rfl, by show _ = _; simp, hbel⟩
      case round =>
        obtain ⟨k, bb, rfl, hk, rfl, HBB, hbk⟩ := hrel
        have hz := hbk.size
        have k8 := (hbk.cell (p := ⟨r, 8, none⟩) hrz).trans h8
        by_cases hkl : k < rls.length
        · obtain ⟨rk, ro, rfl, hrk, d0, d1, d2⟩ := HIN.out.below hbk k hkl
          have c0 := (hbk.cell (p := ⟨g, i * 4, none⟩) hgz).trans s0
          have c1 := (hbk.cell (p := ⟨g, i * 4 + 1, none⟩) hgz).trans s1
          have c2 := (hbk.cell (p := ⟨g, i * 4 + 2, none⟩) hgz).trans s2
          have HNX : Hid ((rls.take (k + 1)).any (fun q => eqB q ⟨stx, spe, sac⟩) = (bb || eqB rls[k] ⟨stx, spe, sac⟩)) := by
            show _ = _
            rw [List.take_succ_eq_append_getElem hkl, List.any_append, ← HBB.out]
            simp
          generalize rls[k] = q at *
          obtain ⟨qtx, qpe, qac⟩ := q
          simp only [] at d0 d1 d2
          have hgw : g < wr.heap.size := by omega
          have hgn : ¬ wr.heap.size = g := by omega
          have hgm : ¬ g = wr.heap.size := by omega
          clear HBB h8 s0 s1 s2
          cases bb
          · by_cases e1 : qpe = spe
            · subst e1
              have q0 : (qpe == qpe) = true := by simp
              by_cases e2 : qtx = stx
              · subst e2
                by_cases e3 : qac = sac
                · subst e3
                  have HN : Hid (true = (rls.take (k + 1)).any fun q => eqB q ⟨qtx, qpe, qac⟩) := by show _ = _; rw [HNX.out]; simp [eqB]
                  have q2 : (qac == qac) = true := by simp
                  clear HNX
                  go_wp2_with fail
                  go_quiet (fail)
                  go_wp2_with fail
                  go_roundw
                  case rel => exact ⟨k + 1, true, by go_num, by omega, rfl, HN, below_drewN (hbk.alloc hz _) _⟩
                  case measure => simp [intOf]; omega
                · have HN : Hid (false = (rls.take (k + 1)).any fun q => eqB q ⟨qtx, qpe, sac⟩) := by show _ = _; rw [HNX.out]; simp [eqB, e3]
                  have q2 : (qac == sac) = false := by simpa using e3
                  clear HNX e3
                  go_wp2_with fail
                  go_quiet (fail)
                  go_wp2_with fail
                  go_roundw
                  case rel => exact ⟨k + 1, false, by go_num, by omega, rfl, HN, below_drewN (hbk.alloc hz _) _⟩
                  case measure => simp [intOf]; omega
              · have HN : Hid (false = (rls.take (k + 1)).any fun q => eqB q ⟨stx, qpe, sac⟩) := by show _ = _; rw [HNX.out]; simp [eqB, e2]
                have q1 := text_ne e2
                clear HNX e2
                go_wp2_with fail
                go_quiet (fail)
                go_wp2_with fail
                go_roundw
                case rel => exact ⟨k + 1, false, by go_num, by omega, rfl, HN, below_drewN (hbk.alloc hz _) _⟩
                case measure => simp [intOf]; omega
            · have HN : Hid (false = (rls.take (k + 1)).any fun q => eqB q ⟨stx, spe, sac⟩) := by show _ = _; rw [HNX.out]; simp [eqB, e1]
              have q0 : (qpe == spe) = false := by simpa using e1
              clear HNX e1
              go_wp2_with fail
              go_quiet (fail)
              go_wp2_with fail
              go_roundw
              case rel => exact ⟨k + 1, false, by go_num, by omega, rfl, HN, below_drewN (hbk.alloc hz _) _⟩
              case measure => simp [intOf]; omega
          · have HN : Hid (true = (rls.take (k + 1)).any fun q => eqB q ⟨stx, spe, sac⟩) := by show _ = _; rw [HNX.out]; simp
            clear HNX
            go_wp2_with fail
            go_quiet (fail)
            go_wp2_with fail
            go_roundw
            case rel => exact ⟨k + 1, true, by go_num, by omega, rfl, HN, below_drewN (hbk.alloc hz _) _⟩
            case measure => simp [intOf]; omega
        · have hbb : bb = true := by
            rw [HBB.out, List.take_of_length_le (by omega), List.any_eq_true]
            exact ⟨_, hmi, eqB_self _⟩
          subst hbb
          have h0 := (hbk.cell (p := ⟨g, i * 4, none⟩) hgz).trans s0
          have h1 := (hbk.cell (p := ⟨g, i * 4 + 1, none⟩) hgz).trans s1
          clear HBB hmi s0 s1 s2
          by_cases hi0 : i = 0
          · subst hi0
            go_wp2_with fail
            go_roundw
            case rel => exact ⟨1, by go_num, by omega, hbk⟩
            case measure => simp [intOf]; omega
          · obtain ⟨j, ptx, ppe, hij, f0, f1, hce, hcc, hcp, hza, hzb⟩ : ∃ j ptx ppe, i = j + 1 ∧ wr.cell? ⟨g, j * 4, none⟩ = some (.string ptx) ∧ wr.cell? ⟨g, j * 4 + 1, none⟩ = some (.int .i64 ppe) ∧ cE ptx stx = 0 ∧ cC ptx stx ≤ 0 ∧ (cC ptx stx = 0 → ppe < spe) ∧ ptx.size ≤ 140737488351232 ∧ stx.size ≤ 140737488351232 := by
              obtain ⟨j, rfl⟩ : ∃ j, i = j + 1 := ⟨i - 1, by omega⟩
              obtain ⟨p0, p1⟩ := HS.out j (by omega)
              have hda := HD.out _ (HM.out j (by omega))
              have hdb := HD.out _ (HM.out (j + 1) hlt)
              have q := erl_cmp hda hdb (HE.out j hlt)
              rw [← HSL.out] at hdb q
              exact ⟨j, _, _, rfl, (hbk.cell (p := ⟨g, j * 4, none⟩) hgz).trans p0, (hbk.cell (p := ⟨g, j * 4 + 1, none⟩) hgz).trans p1, q.1, q.2.1, q.2.2, text_size hda, text_size hdb⟩
            have HC : Hid (∀ w', Below wr.heap.size wr w' → Calls Tryz.prog 27 #[.string ptx, .string stx] w' fun e w'' => e = .returned (.tuple #[.int .i64 (cC ptx stx), .int .i64 0]) ∧ Below wr.heap.size wr w'') := by
              intro w' hx
              have q := compare_any ptx stx w' hza hzb
              rw [hce] at q
              refine q.mono ?_
              rintro e w'' ⟨rfl, hy⟩
              exact ⟨rfl, hx.trans (hy.mono hx.size)⟩
            have hgw : g < wr.heap.size := by omega
            have HSS : Hid (∀ w', Below wr.heap.size wr w' → w'.cell? ⟨g, j * 4, none⟩ = some (.string ptx) ∧ w'.cell? ⟨g, j * 4 + 1, none⟩ = some (.int .i64 ppe) ∧ w'.cell? ⟨g, i * 4, none⟩ = some (.string stx) ∧ w'.cell? ⟨g, i * 4 + 1, none⟩ = some (.int .i64 spe) ∧ Below wr.heap.size wr w') := fun w' hx => ⟨(hx.cell (p := ⟨g, j * 4, none⟩) hgw).trans f0, (hx.cell (p := ⟨g, j * 4 + 1, none⟩) hgw).trans f1, (hx.cell (p := ⟨g, i * 4, none⟩) hgw).trans h0, (hx.cell (p := ⟨g, i * 4 + 1, none⟩) hgw).trans h1, hx⟩
            have hw1 : IntKind.i64.wrap ((i : Int) - 1) = (j : Int) := by simp [IntKind.wrap, IntKind.signed, IntKind.bits]; omega
            have n0 : (0 : Int) ≤ (i : Int) := by omega
            have n1 : (i : Int) < (L.length : Int) := by omega
            have n2 : (0 : Int) ≤ (j : Int) := by omega
            have n3 : (j : Int) < (L.length : Int) := by omega
            have n4 : ((i : Int) == 0) = false := by simpa using hi0
            clear hza hzb hce HS HSL f0 f1 h0 h1 hij hi0
            generalize cC ptx stx = cv at *
            have hgt : decide (0 < cv) = false := by simpa using hcc
            go_wp2_with fail
            go_region_held3 (fun w' => w'.cell? ⟨g, j * 4, none⟩ = some (.string ptx) ∧ w'.cell? ⟨g, j * 4 + 1, none⟩ = some (.int .i64 ppe) ∧ w'.cell? ⟨g, i * 4, none⟩ = some (.string stx) ∧ w'.cell? ⟨g, i * 4 + 1, none⟩ = some (.int .i64 spe) ∧ Below wr.heap.size wr w')
              (first | exact HSS.out _ (by assumption) | exact HSS.out _ (Below.refl _ _).drew)
              (first | (go_at_call 27; refine (HC.out _ (by first | exact (Below.refl _ _).drew | (go_split_ands; assumption))).mono ?_; rintro e w5 ⟨rfl, hb5⟩))
            have hsw := HSS.out w5 hb5
            obtain ⟨y0, y1, y2, y3, _⟩ := hsw
            have hbw5 : Below w.heap.size w w5 := hbk.trans (hb5.mono hbk.size)
            clear HSS HC
            by_cases h00 : cv = 0
            · have q4 : decide (spe ≤ ppe) = false := by have := hcp h00; simpa using this
              have q5 : (cv == 0) = true := by simpa using h00
              clear hcp hcc h00
              go_wp2_with fail
              go_quiet (fail)
              go_wp2_with fail
              go_roundw
              case rel => exact ⟨i + 1, by go_num, by omega, below_drewN hbw5 _⟩
              case measure => simp [intOf]; omega
            · have q5 : (cv == 0) = false := by simpa using h00
              clear hcp hcc h00
              go_wp2_with fail
              go_quiet (fail)
              go_wp2_with fail
              go_roundw
              case rel => exact ⟨i + 1, by go_num, by omega, below_drewN hbw5 _⟩
              case measure => simp [intOf]; omega
    · go_wp2_with fail
      go_ret
      exact ⟨rfl, hbel⟩
end Go.Proofs.YtgkiknfpcbcnnabGreat

namespace Go.Proofs.YtgkiknfpcbcnnabGreat
open Go.RowKit
set_option maxRecDepth 20000

theorem RunI.r24 {X : XGate} {B : Nat} {w : World} {r x : Nat} {c : Cf} {lk : Bool} {hd : Hd} {gs : Nat → Option Obj} {rts : List Rt} {rls : List Rl} (h : RunI X B w r x c lk hd gs rts rls) : rls.length ≤ 24 := by
  obtain ⟨tv, rv, lv, st, F, hj, hs, _⟩ := h.ex
  have := (X.ok hj.inv).l24
  rw [hs.rl.length_eq] at this
  exact this
theorem RunI.gok {X : XGate} {B : Nat} {w : World} {r x : Nat} {c : Cf} {lk : Bool} {hd : Hd} {gs : Nat → Option Obj} {rts : List Rt} {rls : List Rl} (h : RunI X B w r x c lk hd gs rts rls) : GsOK ⟨c, rts, rls⟩ := by
  obtain ⟨tv, rv, lv, st, F, hj, hs, _⟩ := h.ex
  exact GsOK.sim hs.symm (X.ok hj.inv)
theorem RunI.listed {X : XGate} {B : Nat} {w : World} {r x : Nat} {c : Cf} {lk : Bool} {hd : Hd} {gs : Nat → Option Obj} {rts : List Rt} {rls : List Rl} (h : RunI X B w r x c lk hd gs rts rls) {ao : Option Addr} {cap B2 : Nat} (ht : TRow w B2 (.slice ao rls.length cap) (stats ⟨c, rts, rls⟩)) :
    Calls Tryz.prog 11 #[.pointer (some ⟨r, 0, none⟩), .slice ao rls.length cap] w fun e w' => e = .returned (.bool true) ∧ Below w.heap.size w w' := by
  have h24 := h.r24
  have htel := h.tel
  obtain ⟨tv, rv, lv, st, F, hj, hs, _⟩ := h.ex
  obtain ⟨lo, lc, rfl⟩ := ownsRow_shape hj.lrow
  have hl : (stats ⟨c, rts, rls⟩).length = rls.length := stats_len _
  have h8 := cell_of_row w r 8 _ _ _ hj.cell
  have q := listed_any r lo ao lc cap B2 rls (stats ⟨c, rts, rls⟩) w h8 hj.lt (ClIn.of hj.lrow) (by rw [hl]; exact ht) h24 (fun i hi => stats_mem ⟨c, rts, rls⟩ i hi) htel.1 (fun i hi => stats_erl (st := ⟨c, rts, rls⟩) htel i (i + 1) (Nat.lt_succ_self i) hi) hl
  rw [hl] at q
  exact q

theorem seg_row (st : Gs) (i : Nat) (hi : i < (stats st).length) : ∃ (h1 : i < (sortR st.rls).length) (h2 : i < (stF st.c st.rts ⟨#[]⟩ 0 false (sortR st.rls)).length), (stats st)[i].1 = (sortR st.rls)[i] ∧ (stats st)[i].2 = (stF st.c st.rts ⟨#[]⟩ 0 false (sortR st.rls))[i] := by
  have hl : (stats st).length = (sortR st.rls).length := by rw [stats_len, (sortR_perm st.rls).length_eq]
  refine ⟨by omega, by rw [stF_len]; omega, ?_, ?_⟩
  · simp only [stats, List.getElem_zip]
  · simp only [stats, List.getElem_zip]
end Go.Proofs.YtgkiknfpcbcnnabGreat
