import Derived.Test.YtdepfhkhkocehabSeg9
import Derived.Test.YtdepfhkhkocehabSeg7
namespace Go.Proofs.Ytdepfhkhkocehab
open Go.RowKit
set_option maxRecDepth 20000
def hdV (h : Hd) : Value := .agg #[.int .i64 h.ds, .int .i64 h.sr, .int .i64 h.pr, .int .i64 h.po, .int .i64 h.fl, .bool h.la]

theorem RunI.tel {X : XGate} {B : Nat} {w : World} {r x : Nat} {c : Cf} {lk : Bool} {hd : Hd} {tv : Value} {rts : List Rt} {rls : List Rl} (h : RunI X B w r x c lk hd tv rts rls) : Tel rls := by
  obtain ⟨rv, lv, st, F, hj, hs⟩ := h.ex
  exact (X.ok hj.inv).tel.perm hs.rl
/-- What Status tells of a gate that is played. -/
theorem RunI.status {X : XGate} {B : Nat} {w : World} {r x : Nat} {c : Cf} {lk : Bool} {hd : Hd} {tv : Value} {rts : List Rt} {rls : List Rl} (h : RunI X B w r x c lk hd tv rts rls) :
    Calls Try.prog 6 #[.pointer (some ⟨x, 0, none⟩)] w fun e w' => ∃ ao cap, e = .returned (.slice ao rls.length cap) ∧ TRow w' w.heap.size (.slice ao rls.length cap) (stats ⟨c, rts, rls⟩) ∧ RunI X B w' r x c lk hd tv rts rls ∧ Below B w w' := by
  obtain ⟨rv, lv, st, F, hj, hs⟩ := h.ex
  refine (X.status hj.inv).mono ?_
  rintro e w' ⟨v, F', rfl, ht, hi, hF, _, ho⟩
  obtain ⟨hj', hb⟩ := hj.call ho hi hF
  rw [hs.stats (X.ok hj.inv).tel] at ht
  obtain ⟨ao, cap, rfl⟩ := ownsRow_shape ht
  have hl : (stats ⟨c, rts, rls⟩).length = rls.length := stats_len _
  rw [hl] at ht ⊢
  exact ⟨ao, cap, rfl, ht, ⟨rv, lv, st, F', hj', hs⟩, hb⟩
/-- A gate that is just made. -/
theorem RunI.first {X : XGate} {B : Nat} {w : World} {x : Nat} {c : Cf} {lk : Bool} {hd : Hd} {F : Nat → Prop} (hi : X.Inv w x ⟨c, [], []⟩ F) (hz : B ≤ w.heap.size) (hF : ∀ b, F b → B ≤ b ∧ b < w.heap.size) : RunI X B (w.alloc (.cells (runC x c (.slice none 0 0) (.slice none 0 0) lk hd (.slice none 0 0)) 36)) w.heap.size x c lk hd (.slice none 0 0) [] [] := by
  refine ⟨.slice none 0 0, .slice none 0 0, ⟨c, [], []⟩, F, ⟨heap_alloc_new w _, World.ownsRow_nil _ _ _ _, World.ownsRow_nil _ _ _ _, X.same hi (by simp) (fun b hf => heap_alloc_old w _ (hF b hf).2), hz, fun hf => Nat.lt_irrefl _ (hF _ hf).2, fun b hf => (hF b hf).1, ?_, ?_⟩, Sim.refl _⟩
  · intro b hb; simp [Value.ownBlock] at hb
  · intro b hb; simp [Value.ownBlock] at hb

set_option maxHeartbeats 1600000 in
theorem begin_any (X : XGate) (c : Cf) (hd : Hd) (w : World) (h : CfI c) :
    Calls Try.prog 10 #[cfV c, .bool false, hdV hd] w fun e w' => ∃ r x, e = .returned (.pointer (some ⟨r, 0, none⟩)) ∧ RunI X w.heap.size w' r x (fitC c) false hd (.slice none 0 0) [r0] [q0] ∧ Below w.heap.size w w' := by
  have HF : Hid (∀ w, Calls Try.prog 20 #[cfV c] w fun e w' => e = .returned (cfV (fitC c)) ∧ Below w.heap.size w w') := fun w => fit_any c w h
  have hc := fitC_ok c
  generalize fitC c = d at *
  have HN : Hid (∀ w, Calls Try.prog 21 #[cfV d] w fun e w' => (∃ x F, e = .returned (.tuple #[ptrV x, .int .i64 0]) ∧ X.Inv w' x ⟨d, [], []⟩ F ∧ ∀ b, F b → w.heap.size ≤ b) ∧ Below w.heap.size w w') := by
    intro w
    refine (X.new d w).mono ?_
    rintro e w' ⟨h1, h2⟩
    rw [if_pos hc] at h1
    exact ⟨h1, h2⟩
  have HC : Hid (cfOK d = true) := hc
  clear hc h
  unfold cfV hdV
  unfold cfV at HF HN
  unfold ptrV at HN
  go_enter Try.func10, Try.ntmps10
  go_wp2_with fail
  refine (HF.out _).mono ?_
  rintro e w1 ⟨rfl, hb1⟩
  have hbw1 : Below w.heap.size w w1 := ((below_alloc w _).alloc (by simp) _).trans (hb1.mono (by simp; omega))
  have hhd : w1.heap[w.heap.size + 1]? = some (.cells #[.int .i64 hd.ds, .int .i64 hd.sr, .int .i64 hd.pr, .int .i64 hd.po, .int .i64 hd.fl, .bool hd.la] 33 (0, 0)) := (hb1.block (w.heap.size + 1) (by simp)).trans (heap_new_at (w.alloc _) _ _ (by simp))
  clear hb1 HF
  go_wp2_with fail
  refine (HN.out _).mono ?_
  rintro e w2 ⟨⟨x, F, rfl, hinv, hF⟩, hb2⟩
  have hzw := hbw1.size
  have hzh := lt_of_block hhd
  have hbw2 : Below w.heap.size w w2 := (hbw1.alloc hzw _).trans (hb2.mono (by simp; omega))
  have hh2 := (hb2.block (w.heap.size + 1) (by simp; omega)).trans ((heap_alloc_old w1 _ hzh).trans hhd)
  have hd2 := (hb2.block w1.heap.size (by simp)).trans (heap_alloc_new w1 (.cells #[.int .i64 d.cp, .int .i64 d.bu, .int .i64 d.n0, .int .i64 d.n1, .int .i64 d.n2, .int .i64 d.n3] 24))
  have hFz : ∀ b, F b → w.heap.size ≤ b ∧ b < w2.heap.size := fun b hb => ⟨by have := hF b hb; simp at this; omega, X.lt hinv b hb⟩
  have HI : Hid (X.Inv w2 x ⟨d, [], []⟩ F) := hinv
  have HFz : Hid (∀ b, F b → w.heap.size ≤ b ∧ b < w2.heap.size) := hFz
  have HB2 : Hid (Below w.heap.size w w2) := hbw2
  clear hinv hF hFz hb2 hbw1 hhd HN hbw2
  have d0 := cell_of_row w2 w1.heap.size 0 _ _ _ hd2
  have e0 := cell_of_row w2 (w.heap.size + 1) 0 _ _ _ hh2
  have d1 := cell_of_row w2 w1.heap.size 1 _ _ _ hd2
  have e1 := cell_of_row w2 (w.heap.size + 1) 1 _ _ _ hh2
  have d2 := cell_of_row w2 w1.heap.size 2 _ _ _ hd2
  have e2 := cell_of_row w2 (w.heap.size + 1) 2 _ _ _ hh2
  have d3 := cell_of_row w2 w1.heap.size 3 _ _ _ hd2
  have e3 := cell_of_row w2 (w.heap.size + 1) 3 _ _ _ hh2
  have d4 := cell_of_row w2 w1.heap.size 4 _ _ _ hd2
  have e4 := cell_of_row w2 (w.heap.size + 1) 4 _ _ _ hh2
  have d5 := cell_of_row w2 w1.heap.size 5 _ _ _ hd2
  have e5 := cell_of_row w2 (w.heap.size + 1) 5 _ _ _ hh2
  clear hd2 hh2
  go_wp2_with fail
  have hr3 := RunI.first (lk := false) (hd := hd) HI.out HB2.out.size HFz.out
  unfold runC at hr3
  have hb3 := HB2.out.alloc HB2.out.size (.cells #[.pointer (some ⟨x, 0, none⟩), .int .i64 d.cp, .int .i64 d.bu, .int .i64 d.n0, .int .i64 d.n1, .int .i64 d.n2, .int .i64 d.n3, .slice none 0 0, .slice none 0 0, .bool true, .bool false, .int .i64 hd.ds, .int .i64 hd.sr, .int .i64 hd.pr, .int .i64 hd.po, .int .i64 hd.fl, .bool hd.la, .slice none 0 0] 36)
  clear d0 d1 d2 d3 d4 d5 e0 e1 e2 e3 e4 e5
  generalize w2.alloc (.cells #[.pointer (some ⟨x, 0, none⟩), .int .i64 d.cp, .int .i64 d.bu, .int .i64 d.n0, .int .i64 d.n1, .int .i64 d.n2, .int .i64 d.n3, .slice none 0 0, .slice none 0 0, .bool true, .bool false, .int .i64 hd.ds, .int .i64 hd.sr, .int .i64 hd.pr, .int .i64 hd.po, .int .i64 hd.fl, .bool hd.la, .slice none 0 0] 36) = w3 at *
  refine (route_any X hr3 0 0 0 255 (by decide) (by decide) (by decide)).mono ?_
  rintro e w4 ⟨rfl, hr4, hb4⟩
  have HR4 : Hid (RunI X w.heap.size w4 w2.heap.size x d false hd (.slice none 0 0) [r0] []) := hr4
  have HB4 : Hid (Below w.heap.size w w4) := hb3.trans (hb4)
  clear hr3 hr4 hb3 hb4 HB2 HI HFz
  go_wp2_with fail
  refine (say_any X HR4.out 0 ⟨#[1, 0]⟩ 255 (by decide) (by rw [all_dst, decS_complete _ (by decide)]; rfl) (by decide) (by decide)).mono ?_
  rintro e w5 ⟨rfl, hr5, hb5⟩
  have HR5 : Hid (RunI X w.heap.size w5 w2.heap.size x d false hd (.slice none 0 0) [r0] [q0]) := hr5
  have HB5 : Hid (Below w.heap.size w w5) := HB4.out.trans hb5
  clear hr5 hb5 HR4 HB4
  go_wp2_with fail
  refine (HR5.out.status).mono ?_
  rintro e w6 ⟨ao, cap, rfl, ht, hr6, hb6⟩
  rw [stats_begin HC.out] at ht
  have HR6 : Hid (RunI X w.heap.size w6 w2.heap.size x d false hd (.slice none 0 0) [r0] [q0]) := hr6
  have HB6 : Hid (Below w.heap.size w w6) := HB5.out.trans hb6
  obtain ⟨k10, k9⟩ := hr6.look
  obtain ⟨g, rfl, hg, hcs⟩ := ht.get (by simp)
  obtain ⟨t0, t1, t2, t3⟩ := hcs 0 (by simp)
  simp only [q0, List.getElem_cons_zero, Nat.zero_mul, Nat.zero_add] at t0 t1 t2 t3
  clear hcs ht hr6 hb6 HR5 HB5 HC
  go_wp2_with fail
  go_ret
  exact ⟨w2.heap.size, x, rfl, HR6.out, HB6.out⟩

theorem IntsB.mono {w : World} {B B' : Nat} {ao : Option Addr} {n : Nat} (h : IntsB w B ao n) (hB : B ≤ B') : IntsB w B' ao n := by
  intro i hi
  obtain ⟨b, off, z, h1, h2, h3⟩ := h i hi
  exact ⟨b, off, z, h1, Nat.lt_of_lt_of_le h2 hB, h3⟩
theorem StepsB.mono {w : World} {B B' : Nat} {ao : Option Addr} {l : List StS} (h : StepsB w B ao l) (hB : B ≤ B') : StepsB w B' ao l := by
  intro i hi
  obtain ⟨⟨b, off, h1, h2, h3⟩, h4⟩ := h i hi
  exact ⟨⟨b, off, h1, Nat.lt_of_lt_of_le h2 hB, h3⟩, h4.pr, h4.nn, h4.ll, h4.ints.mono hB⟩

set_option maxHeartbeats 800000 in
theorem played_any (X : XGate) (c : Cf) (l : List StS) (ao : Option Addr) (cap : Nat) (w : World) (h : CfI c) (hl : l.length ≤ 9223372036854775807) (hs : StepsB w w.heap.size ao l) :
    Calls Try.prog 5 #[cfV c, .slice ao l.length cap] w fun e w' => ∃ r x rts rls, e = .returned (.pointer (some ⟨r, 0, none⟩)) ∧ RunI X (w.heap.size + 1) w' r x (fitC c) false ⟨0, 0, 0, 0, 0, false⟩ (.slice none 0 0) rts rls ∧ Below w.heap.size w w' := by
  have HB : Hid (∀ w, Calls Try.prog 10 #[cfV c, .bool false, .agg #[.int .i64 0, .int .i64 0, .int .i64 0, .int .i64 0, .int .i64 0, .bool false]] w fun e w' => ∃ r x, e = .returned (.pointer (some ⟨r, 0, none⟩)) ∧ RunI X w.heap.size w' r x (fitC c) false ⟨0, 0, 0, 0, 0, false⟩ (.slice none 0 0) [r0] [q0] ∧ Below w.heap.size w w') := fun w => begin_any X c ⟨0, 0, 0, 0, 0, false⟩ w h
  have HS : Hid (StepsB w w.heap.size ao l) := hs
  have HL : Hid (l.length ≤ 9223372036854775807) := hl
  clear h hs hl
  unfold cfV
  unfold cfV at HB
  go_enter Try.func5, Try.ntmps5
  go_wp2_with fail
  refine (HB.out _).mono ?_
  rintro e w1 ⟨r, x, rfl, hr1, hb1⟩
  simp only [World.size_alloc] at hr1 hb1
  have hb0 : Below w.heap.size w w1 := (below_alloc w _).trans (hb1.mono (Nat.le_succ _))
  have hs1 := (HS.out.below hb0).mono (Nat.le_succ _)
  have HP : Hid (Calls Try.prog 11 #[.pointer (some ⟨r, 0, none⟩), .slice ao l.length cap] w1 fun e w' => e = .returned (.tuple #[]) ∧ (∃ rts' rls', RunI X (w.heap.size + 1) w' r x (fitC c) false ⟨0, 0, 0, 0, 0, false⟩ (.slice none 0 0) rts' rls') ∧ Below (w.heap.size + 1) w1 w') := play_any X hr1 l ao cap HL.out hs1
  have HB1 : Hid (Below w.heap.size w w1) := hb0
  clear hb0 hs1 hr1 hb1 HS HL HB
  go_wp2_with fail
  refine HP.out.mono ?_
  rintro e w2 ⟨rfl, ⟨rts, rls, hr2⟩, hb2⟩
  obtain ⟨k10, k9⟩ := hr2.look
  have HR2 : Hid (RunI X (w.heap.size + 1) w2 r x (fitC c) false ⟨0, 0, 0, 0, 0, false⟩ (.slice none 0 0) rts rls) := hr2
  have HB2 : Hid (Below w.heap.size w w2) := HB1.out.trans (hb2.mono (Nat.le_succ _))
  clear hr2 hb2 HB1 HP
  go_wp2_with fail
  go_ret
  exact ⟨r, x, rts, rls, rfl, HR2.out, HB2.out⟩
end Go.Proofs.Ytdepfhkhkocehab
