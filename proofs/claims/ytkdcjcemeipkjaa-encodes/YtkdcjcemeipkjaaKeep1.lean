import Derived.Test.YtkdcjcemeipkjaaMath2
namespace Go.Proofs.Ytkdcjcemeipkjaa
open Go.RowKit
set_option maxRecDepth 20000

def pk (c n : Int) : Int := (if c < 0 then -(c + 1) else c) % n
theorem pk_bd (c n : Int) (h : 0 < n) : 0 ≤ pk c n ∧ pk c n < n := by
  unfold pk; exact ⟨Int.emod_nonneg _ (by omega), Int.emod_lt_of_pos _ h⟩

theorem pick_any (c n : Int) (w : World) (h0 : -9223372036854775808 ≤ c) (h1 : c ≤ 9223372036854775807) (hn : 0 < n) (hn2 : n ≤ 65536) :
    Calls Try.prog 62 #[.int .i64 c, .int .i64 n] w fun e w' => e = .returned (.int .i64 (pk c n)) ∧ w = w' := by
  by_cases hc : c < 0
  · have e : pk c n = -((c + 1).tmod n) := by unfold pk; rw [if_pos hc, ← Int.neg_tmod]; exact (Int.tmod_eq_emod_of_nonneg (by omega)).symm
    rw [e]; clear e
    go_enter Try.func62, Try.ntmps62
    go_wp2
    go_ret
    exact ⟨rfl, rfl⟩
  · have e : pk c n = c % n := by unfold pk; rw [if_neg hc]
    rw [e]; clear e
    go_enter Try.func62, Try.ntmps62
    go_wp2
    go_ret
    exact ⟨rfl, rfl⟩

/-- Numbers lie at ao, all of them below block M. -/
def IntsIn (w : World) (M : Nat) (ao : Option Addr) (n : Nat) : Prop :=
  ∀ i, i < n → ∃ b off z, ao = some ⟨b, off, none⟩ ∧ b < M ∧ w.cell? ⟨b, off + i, none⟩ = some (.int .i64 z) ∧ -9223372036854775808 ≤ z ∧ z ≤ 9223372036854775807

/-- The maker at block M. -/
structure Mk (w : World) (M : Nat) (ao : Option Addr) (n cap : Nat) : Prop where
  len : n ≤ 9223372036854775807
  ints : IntsIn w M ao n
  box : ∃ a : Nat, a ≤ n ∧ w.heap[M]? = some (.cells #[.slice ao n cap, .int .i64 a] 73 (0, 0))

theorem grownBy_trans {a b c : World} {r : Option Nat} (h : a.grownBy b r) (k : b.grownBy c r) : a.grownBy c r :=
  ⟨k.os.trans h.os, k.tape.trans h.tape, k.output.trans h.output, Nat.le_trans h.size k.size, fun i hi hr => (k.block i (by have := h.size; omega) hr).trans (h.block i hi hr)⟩
theorem grownBy_drewN (a : World) (r : Option Nat) (n : Nat) : a.grownBy (a.drewN n) r := ⟨rfl, rfl, rfl, Nat.le_refl _, fun _ _ _ => rfl⟩
theorem grownBy_setCell (a : World) (M o : Nat) (u : Value) : a.grownBy (a.setCell ⟨M, o, none⟩ u) (some M) :=
  ⟨rfl, rfl, rfl, by simp [World.setCell], fun k _ hr => Below.heap_setCell _ _ _ _ (fun e => hr (by rw [e]))⟩

theorem IntsIn.grown {w w' : World} {M : Nat} {ao : Option Addr} {n : Nat} (h : IntsIn w M ao n) (hg : w.grownBy w' (some M)) : IntsIn w' M ao n := by
  intro i hi
  obtain ⟨b, off, z, e, hb, hc, h1, h2⟩ := h i hi
  exact ⟨b, off, z, e, hb, hg.cell hc (by simp; omega), h1, h2⟩

theorem Mk.below {w w' : World} {M : Nat} {ao : Option Addr} {n cap : Nat} (h : Mk w M ao n cap) (hb : Below w.heap.size w w') : Mk w' M ao n cap := by
  refine ⟨h.len, ?_, ?_⟩
  · intro i hi
    obtain ⟨b, off, z, e, hne, hc, h1, h2⟩ := h.ints i hi
    exact ⟨b, off, z, e, hne, by rw [hb.cell (World.block_lt_of_cell? w _ hc)]; exact hc, h1, h2⟩
  · obtain ⟨a, ha, hh⟩ := h.box
    exact ⟨a, ha, by rw [hb.block M (lt_of_block hh)]; exact hh⟩

theorem Mk.row {w w' : World} {M : Nat} {ao : Option Addr} {n cap : Nat} {row : Option Nat} (h : Mk w M ao n cap) (hg : w.grownBy w' row) (hr : ∀ k, row = some k → M < k) : Mk w' M ao n cap := by
  refine ⟨h.len, ?_, ?_⟩
  · intro i hi
    obtain ⟨b, off, z, e, hlt, hc, h1, h2⟩ := h.ints i hi
    exact ⟨b, off, z, e, hlt, hg.cell hc (fun he => by have := hr _ he.symm; simp at this; omega), h1, h2⟩
  · obtain ⟨a, ha, hh⟩ := h.box
    exact ⟨a, ha, by rw [hg.block M (lt_of_block hh) (fun he => by have := hr _ he.symm; omega)]; exact hh⟩

theorem two_setCell {w : World} {M : Nat} {x y u : Value} {t : TypeId} (h : w.heap[M]? = some (.cells #[x, y] t (0, 0))) : (w.setCell ⟨M, 1, none⟩ u).heap[M]? = some (.cells #[x, u] t (0, 0)) := by
  simp [World.setCell, Array.getElem?_modify, h]

set_option maxHeartbeats 800000 in
theorem pickM_any (M : Nat) (ao : Option Addr) (n cap : Nat) (N : Int) (w : World) (hN : 0 < N) (hN2 : N ≤ 65536) (h : Mk w M ao n cap) :
    Calls Try.prog 39 #[.pointer (some ⟨M, 0, none⟩), .int .i64 N] w fun e w' => ∃ k, e = .returned (.int .i64 k) ∧ 0 ≤ k ∧ k < N ∧ Mk w' M ao n cap ∧ w.grownBy w' (some M) := by
  obtain ⟨hlen, hints, a, ha, hbox⟩ := h
  have c0 : w.cell? ⟨M, 0, none⟩ = some (.slice ao n cap) := by simp [World.cell?, hbox]
  have c1 : w.cell? ⟨M, 1, none⟩ = some (.int .i64 a) := by simp [World.cell?, hbox]
  have f1 : w.frozen? ⟨M, 1, none⟩ = false := by simp [World.frozen?, hbox]
  have HB : Hid (w.heap[M]? = some (.cells #[.slice ao n cap, .int .i64 a] 73 (0, 0))) := hbox
  clear hbox
  by_cases hlt : a < n
  · have hge : decide ((n : Int) ≤ (a : Int)) = false := by simp; omega
    obtain ⟨b, off, z, rfl, hne, hc, z0, z1⟩ := hints a hlt
    have hpk := pk_bd z N hN
    go_enter Try.func39, Try.ntmps39
    go_wp2
    go_quiet (fail)
    go_wp2_with fail
    go_quiet ((go_at_call 62; exact (pick_any _ _ _ z0 z1 hN hN2).mono fun _ _ h => ⟨h.1, _, h.2.symm⟩))
    go_wp2_with fail
    go_ret
    refine ⟨pk z N, rfl, hpk.1, hpk.2, ⟨hlen, hints.grown ?g, a + 1, by omega, two_setCell HB.out⟩, ?g⟩
    exact grownBy_trans (grownBy_drewN _ _ _) (grownBy_setCell _ _ _ _)
  · have hge : decide ((n : Int) ≤ (a : Int)) = true := by simp; omega
    go_enter Try.func39, Try.ntmps39
    go_wp2
    go_quiet (fail)
    go_wp2_with fail
    go_ret
    exact ⟨0, rfl, by omega, hN, ⟨hlen, hints.grown (grownBy_drewN _ _ _), a, ha, HB.out⟩, grownBy_drewN _ _ _⟩

theorem Mk.step {w w' : World} {B M : Nat} {W0 : World} (hb : Below B W0 w) (hB : B ≤ w.heap.size) (hM : B ≤ M) (hg : w.grownBy w' (some M)) : Below B W0 w' :=
  hb.grown hg hB (fun k hk => by simp at hk; omega)

theorem grownBy_setHigh {a b : World} {r : Option Nat} (h : a.grownBy b r) {p : Addr} (hp : a.heap.size ≤ p.block) (u : Value) : a.grownBy (b.setCell p u) r :=
  ⟨h.os, h.tape, h.output, by have := h.size; simp [World.setCell]; omega, fun k hk hr => (Below.heap_setCell _ _ _ _ (by omega)).trans (h.block k hk hr)⟩

theorem Mk.setHigh {w w2 : World} {M : Nat} {ao : Option Addr} {n cap : Nat} (h2 : Mk w2 M ao n cap) (h : Mk w M ao n cap) {p q : Addr} {u v : Value} (g : w.grownBy ((w2.setCell p u).setCell q v) (some M)) (hp : p.block ≠ M) (hq : q.block ≠ M) : Mk ((w2.setCell p u).setCell q v) M ao n cap := by
  obtain ⟨a, ha, hb⟩ := h2.box
  exact ⟨h.len, h.ints.grown g, a, ha, by rw [Below.heap_setCell _ _ _ _ (Ne.symm hq), Below.heap_setCell _ _ _ _ (Ne.symm hp)]; exact hb⟩

theorem size_div (l v : Int) (h0 : 0 ≤ l) (h1 : l ≤ 16) (v0 : 0 ≤ v) (v1 : v ≤ 65535) : prefOK (v / 2 ^ (16 - l).toNat * 2 ^ (16 - l).toNat) l = true := by
  have hp : (0 : Int) < 2 ^ (16 - l).toNat := Int.pow_pos (by omega)
  have hle := Int.ediv_mul_le v (b := 2 ^ (16 - l).toNat) (by omega)
  have hnn : 0 ≤ v / 2 ^ (16 - l).toNat * 2 ^ (16 - l).toNat := Int.mul_nonneg (Int.ediv_nonneg v0 (by omega)) (by omega)
  unfold prefOK
  simp only [Bool.and_eq_true, decide_eq_true_eq]
  exact ⟨⟨⟨⟨h0, h1⟩, hnn⟩, by omega⟩, Int.mul_emod_left _ _⟩

set_option maxHeartbeats 800000 in
theorem prefixM_any (M : Nat) (ao : Option Addr) (n cap : Nat) (w : World) (h : Mk w M ao n cap) :
    Calls Try.prog 40 #[.pointer (some ⟨M, 0, none⟩)] w fun e w' => ∃ b l, e = .returned (.agg #[.int .i64 b, .int .i64 l]) ∧ prefOK b l = true ∧ Mk w' M ao n cap ∧ w.grownBy w' (some M) := by
  have hm0 := h.below (below_alloc w (.cells #[.int .i64 0, .int .i64 0] 32))
  go_enter Try.func40, Try.ntmps40
  go_wp2_with fail
  refine (pickM_any M ao n cap 17 _ (by omega) (by omega) hm0).mono ?_
  rintro e w1 ⟨l, rfl, l0, l1, hm1, g1⟩
  go_wp2_with fail
  refine (pickM_any M ao n cap 65536 _ (by omega) (by omega) hm1).mono ?_
  rintro e w2 ⟨v, rfl, v0, v1, hm2, g2⟩
  have g12 := grownBy_trans g1 g2
  have gw := grownBy_trans (World.grownBy_alloc w _ (some M)) g12
  obtain ⟨a, ha, hbox⟩ := h.box
  have hMlt := lt_of_block hbox
  clear hbox
  have c0 : w2.cell? ⟨w.heap.size, 0, none⟩ = some (.int .i64 0) := g12.cell (by simp [go_sem]) (by simp; omega)
  have c1 : w2.cell? ⟨w.heap.size, 1, none⟩ = some (.int .i64 0) := g12.cell (by simp [go_sem]) (by simp; omega)
  have hblk : w2.heap[w.heap.size]? = (w.alloc (.cells #[.int .i64 0, .int .i64 0] 32)).heap[w.heap.size]? := g12.block w.heap.size (by simp) (by simp; omega)
  have f0 : w2.frozen? ⟨w.heap.size, 0, none⟩ = false := (World.frozen?_of_block (a := ⟨w.heap.size, 0, none⟩) hblk).trans (by simp [go_sem])
  have f1 : w2.frozen? ⟨w.heap.size, 1, none⟩ = false := (World.frozen?_of_block (a := ⟨w.heap.size, 1, none⟩) hblk).trans (by simp [go_sem])
  clear hblk
  have hpb := pow_bd (16 - l).toNat (by omega)
  obtain ⟨P, hP⟩ : ∃ P : Int, Hid (P = 2 ^ (16 - l).toNat) := ⟨_, rfl⟩
  have p1 : 1 ≤ P ∧ P ≤ 65536 := by rw [hP.out]; have : (2 : Int) ^ (16 - l).toNat = ((2 ^ (16 - l).toNat : Nat) : Int) := by simp
                                    omega
  have eP : wrap64 (2 ^ (16 - l).toNat) = P := by rw [← hP.out]; exact IntWalk.wrap64_in _ ⟨by omega, by omega⟩
  have hq0 : 0 ≤ v / P := Int.ediv_nonneg v0 (by omega)
  have hq1 : v / P ≤ v := Int.ediv_le_self _ v0
  have hq2 : v / P * P ≤ v := Int.ediv_mul_le v (by omega)
  have hq3 : 0 ≤ v / P * P := Int.mul_nonneg hq0 (by omega)
  have eQ : wrap64 (v / P * P) = v / P * P := IntWalk.wrap64_in _ ⟨by omega, by omega⟩
  clear hpb
  go_wp2_with fail
  refine bodyPost_ret (v := .agg #[.int .i64 (v / P * P), .int .i64 l]) (by simp [results, Try.results40, go_sem, c0, c1]) rfl ⟨_, _, rfl, by rw [hP.out]; exact size_div l v l0 (by omega) v0 (by omega), hm2.setHigh h (grownBy_setHigh (grownBy_setHigh gw (Nat.le_refl _) _) (Nat.le_refl _) _) (by simp; omega) (by simp; omega), grownBy_setHigh (grownBy_setHigh gw (Nat.le_refl _) _) (Nat.le_refl _) _⟩
end Go.Proofs.Ytkdcjcemeipkjaa
