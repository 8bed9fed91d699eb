import Derived.Test.YtkdcjcemeipkjaaKeep1
namespace Go.Proofs.Ytkdcjcemeipkjaa
open Go.RowKit
set_option maxRecDepth 20000

theorem infoByte : (Try.prog.info? 5).map (fun i => (i.zero, i.size, i.bytes)) = some (some (.int .u8 0), 1, 1) := by kernel_rfl

/-- A string's bytes as cells. -/
def bv (X : ByteArray) : List Value := (bl X).map fun b => .int .u8 (b.toNat : Int)
theorem bv_len (X : ByteArray) : (bv X).length = X.size := by unfold bv; rw [List.length_map, bl_len]
theorem bv_app (X Y : ByteArray) : bv (X ++ Y) = bv X ++ bv Y := by unfold bv; rw [bl_app, List.map_append]
theorem bv_ch (n : Int) (h0 : 0 ≤ n) (h1 : n ≤ 255) : bv (ch n) = [.int .u8 n] := by
  have e : ((UInt8.ofNat n.toNat).toNat : Int) = n := by rw [UInt8.toNat_ofNat_of_lt' (by show n.toNat < 256; omega)]; omega
  show [Value.int .u8 ((UInt8.ofNat n.toNat).toNat : Int)] = _
  rw [e]

theorem cell_one_new (w : World) (k : Nat) (a : Value) (t : TypeId) (hk : w.heap.size = k) : ∀ j u, [a][j]? = some u → (w.alloc (.cells #[a] t)).cell? ((⟨k, 0, none⟩ : Addr).add j) = some u := by
  subst hk
  intro j u hj
  match j, hj with
  | 0, hj => simp at hj; subst hj; simp [Addr.add]
  | n + 1, hj => simp at hj

theorem int_one (k : IntKind) (n : Int) : ∀ u ∈ [Value.int k n], u.oneCell' = true := by simp [Value.oneCell']

/-- string(b), b a row of the call's own. -/
theorem conv_own {w : World} {B : Nat} {v : Value} {X : ByteArray} (h : w.ownsRow B 5 1 v X.size (bv X)) (hp : 0 < X.size) :
    (convert 90 9 v).run Try.prog w = .ok (.string X) w := by
  rcases h.2 with ⟨_, h0⟩ | ⟨g, cap, cur, rfl, hb, hg, hn, hm, hs, ht⟩
  · omega
  · have e : (⟨(bl X).toArray⟩ : ByteArray) = X := by apply ByteArray.ext; simp [bl]
    have hc := run_convert_bytes_back (P := Try.prog) w 90 9 5 ⟨g, 0, none⟩ cap (bl X) Try.underlying90 Try.underlying5 Try.underlying9 (by
      intro j hj
      exact h.cells (g := g) rfl j _ (by unfold bv; rw [List.getElem?_map, List.getElem?_eq_getElem hj]; rfl))
    rw [bl_len, e] at hc
    exact hc

theorem owns_byte {w : World} {B : Nat} {v : Value} {X : ByteArray} {n : Int} (h0 : 0 ≤ n) (h1 : n ≤ 255) (h : w.ownsRow B 5 1 v (X.size + 1) (bv X ++ [.int .u8 n])) : w.ownsRow B 5 1 v (X ++ ch n).size (bv (X ++ ch n)) := by
  rw [bv_app, bv_ch n h0 h1, ByteArray.size_append, ch_size]; exact h

theorem owns_two (w : World) (B : Nat) (a b : Int) (ha : 0 ≤ a) (ha1 : a ≤ 255) (hb : 0 ≤ b) (hb1 : b ≤ 255) (hB : B ≤ w.heap.size) :
    (w.alloc (.cells #[.int .u8 a, .int .u8 b] 5)).ownsRow B 5 1 (.slice (some ⟨w.heap.size, 0, none⟩) 2 2) (ch a ++ ch b).size (bv (ch a ++ ch b)) := by
  rw [bv_app, bv_ch a ha ha1, bv_ch b hb hb1]
  exact World.ownsRow_lit w #[.int .u8 a, .int .u8 b] 2 hB (by unfold maxLen; omega) rfl

theorem owns_one (w : World) (B : Nat) (a : Int) (ha : 0 ≤ a) (ha1 : a ≤ 255) (hB : B ≤ w.heap.size) :
    (w.alloc (.cells #[.int .u8 a] 5)).ownsRow B 5 1 (.slice (some ⟨w.heap.size, 0, none⟩) 1 1) (ch a).size (bv (ch a)) := by
  rw [bv_ch a ha ha1]
  exact World.ownsRow_lit w #[.int .u8 a] 1 hB (by unfold maxLen; omega) rfl

/-- Behind an append onto a row of the call's own. -/
theorem below_byte {W0 w w1 : World} {B : Nat} {o : Obj} {v : Value} {n : Nat} {xs : List Value} (hb : Below B W0 w) (hB : B ≤ w.heap.size) (hown : w.ownsRow B 5 1 v n xs) (hg : (w.alloc o).grownBy w1 v.ownBlock) : Below B W0 w1 :=
  ((hb.alloc hB o).grown hg (by simp; omega) (fun k hk => (hown.lt k hk).1))

theorem box2_cells {w w1 : World} {a b : Value} {T : TypeId} {o1 o2 : Obj} {row : Option Nat} (hg : (((w.alloc (.cells #[a, b] T)).alloc o1).alloc o2).grownBy w1 row) (hr : some w.heap.size ≠ row) :
    w1.cell? ⟨w.heap.size, 0, none⟩ = some a ∧ w1.cell? ⟨w.heap.size, 1, none⟩ = some b := by
  have hb : Below (w.alloc (.cells #[a, b] T)).heap.size (w.alloc (.cells #[a, b] T)) (((w.alloc (.cells #[a, b] T)).alloc o1).alloc o2) := (below_alloc _ _).alloc (by simp) _
  exact ⟨hg.cell ((hb.cell (by simp)).trans (by simp [go_sem])) hr, hg.cell ((hb.cell (by simp)).trans (by simp [go_sem])) hr⟩

theorem wPref_zero (b l : Int) (h : ¬ 0 < l) : wPref b l = ch l := by
  have hp : pB l = 0 := by unfold pB; rw [if_neg (by omega), if_neg h]
  unfold wPref; rw [hp]; simp [wNum, app_nil]
theorem wPref_one (b l : Int) (h : 0 < l) (h2 : ¬ 8 < l) : wPref b l = ch l ++ ch (b / 256) := by
  have hp : pB l = 1 := by unfold pB; rw [if_neg h2, if_pos h]
  unfold wPref; rw [hp]; simp [wNum]
theorem wPref_two (b l : Int) (h2 : 8 < l) : wPref b l = ch l ++ (ch (b / 256) ++ ch (b % 256)) := by
  have hp : pB l = 2 := by unfold pB; rw [if_pos h2]
  unfold wPref; rw [hp]; simp [wNum]

set_option maxHeartbeats 800000 in
theorem prefixPart_any (k b l : Int) (w : World) (k0 : 0 ≤ k) (k1 : k ≤ 255) (h : prefOK b l = true) :
    Calls Try.prog 41 #[.int .i64 k, .agg #[.int .i64 b, .int .i64 l]] w fun e w' => e = .returned (.string (ch k ++ wPref b l)) ∧ Below w.heap.size w w' := by
  obtain ⟨i0, hi, hz0, hz1, hz2⟩ := info_parts infoByte
  obtain ⟨l0, l1, b0, b1, _⟩ := prefOK_bd h
  have ek : k % 256 = k := by omega
  have el : l % 256 = l := by omega
  have eb : b / 256 % 256 = b / 256 := by omega
  have eb2 : b % 256 % 256 = b % 256 := by omega
  have hown0 := owns_two (w.alloc (.cells #[.int .i64 b, .int .i64 l] 32)) (w.heap.size + 1) k l k0 k1 l0 (by omega) (by simp)
  simp only [World.size_alloc] at hown0
  have hcv0 := conv_own hown0 (by simp [ByteArray.size_append, ch_size])
  have hb0 := (below_alloc w (.cells #[.int .i64 b, .int .i64 l] 32)).alloc (by simp) (.cells #[.int .u8 k, .int .u8 l] 5)
  by_cases c1 : 0 < l
  · by_cases c2 : 8 < l
    · have e : ch k ++ wPref b l = ch k ++ ch l ++ ch (b / 256) ++ ch (b % 256) := by rw [wPref_two b l c2]; simp [app_assoc]
      rw [e]; clear e
      go_enter Try.func41, Try.ntmps41
      go_wp2_with (first
        | (at_builtin; refine wpList_append_own _ rfl (.tmp 15) (.tmp 20) 90 rfl (w.heap.size + 1) 5 i0 _ 1 1 Try.underlying90 hi hz0 hz1 hz2 rfl (by decide) _ _ _ rfl (hown0.alloc _) ⟨w.heap.size + 2, 0, none⟩ 1 1 [.int .u8 (b / 256)] rfl rfl (cell_one_new _ _ _ _ (by simp)) (int_one _ _) (by unfold maxLen; simp [ByteArray.size_append, ch_size]) (by simp [ByteArray.size_append, ch_size]) (by simp) ?_; intro v1 w1 hown1 hgrow1 _; have hown2 := owns_byte (by omega) (by omega) hown1; have hcv1 := conv_own hown2 (by simp [ByteArray.size_append, ch_size]); obtain ⟨p0, p1⟩ := box2_cells hgrow1 (fun he => by have := (hown0.lt _ he.symm).1; omega); have hb1 := below_byte (hb0.mono (Nat.le_refl _)) (by simp; omega) (ownsRow_base hown0 (by omega)) hgrow1; have z1 : w.heap.size + 3 ≤ w1.heap.size := by (have := hgrow1.size; simp at this; omega))
        | (at_builtin; refine wpList_append_own _ rfl (.tmp 25) (.tmp 30) 90 rfl (w.heap.size + 1) 5 i0 _ 1 1 Try.underlying90 hi hz0 hz1 hz2 rfl (by decide) _ _ _ rfl (hown2.alloc _) ⟨w1.heap.size, 0, none⟩ 1 1 [.int .u8 (b % 256)] rfl rfl (cell_one_new _ _ _ _ rfl) (int_one _ _) (by unfold maxLen; simp [ByteArray.size_append, ch_size]) (by simp [ByteArray.size_append, ch_size]) (by simp; omega) ?_; intro v2 w2 hown3 hgrow2 _; have hown4 := owns_byte (by omega) (by omega) hown3; have hcv2 := conv_own hown4 (by simp [ByteArray.size_append, ch_size]); have hb2 := below_byte hb1 (by omega) (ownsRow_base hown2 (by omega)) hgrow2))
      go_ret
      exact ⟨rfl, hb2⟩
    · have e : ch k ++ wPref b l = ch k ++ ch l ++ ch (b / 256) := by rw [wPref_one b l c1 c2]; simp [app_assoc]
      rw [e]; clear e
      go_enter Try.func41, Try.ntmps41
      go_wp2_with (at_builtin; refine wpList_append_own _ rfl (.tmp 15) (.tmp 20) 90 rfl (w.heap.size + 1) 5 i0 _ 1 1 Try.underlying90 hi hz0 hz1 hz2 rfl (by decide) _ _ _ rfl (hown0.alloc _) ⟨w.heap.size + 2, 0, none⟩ 1 1 [.int .u8 (b / 256)] rfl rfl (cell_one_new _ _ _ _ (by simp)) (int_one _ _) (by unfold maxLen; simp [ByteArray.size_append, ch_size]) (by simp [ByteArray.size_append, ch_size]) (by simp) ?_; intro v1 w1 hown1 hgrow1 _; have hown2 := owns_byte (by omega) (by omega) hown1; have hcv1 := conv_own hown2 (by simp [ByteArray.size_append, ch_size]); obtain ⟨p0, p1⟩ := box2_cells hgrow1 (fun he => by have := (hown0.lt _ he.symm).1; omega); have hb1 := below_byte (hb0.mono (Nat.le_refl _)) (by simp; omega) (ownsRow_base hown0 (by omega)) hgrow1; have z1 : w.heap.size + 3 ≤ w1.heap.size := by (have := hgrow1.size; simp at this; omega))
      go_ret
      exact ⟨rfl, hb1⟩
  · have e : ch k ++ wPref b l = ch k ++ ch l := by rw [wPref_zero b l c1]
    rw [e]; clear e
    go_enter Try.func41, Try.ntmps41
    go_wp2
    go_ret
    exact ⟨rfl, hb0⟩
end Go.Proofs.Ytkdcjcemeipkjaa
