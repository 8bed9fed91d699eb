import Derived.Test.YtgkiknfpcbcnnabGreatScg
import Derived.Test.YtgkiknfpcbcnnabGreatSce
namespace Go.Proofs.YtgkiknfpcbcnnabGreat
open Go.RowKit
set_option maxRecDepth 20000

/-- What of the routes origin looks at. -/
def orF (tx : ByteArray) (q : Rt) : Bool := decide ((p0S tx).ty = 1) && cov q.bt q.ln (dsB tx) (dsL tx)
def orG (c : Cf) (tx : ByteArray) (pe : Int) (q : Rt) : Bool := orF tx q && decide (netF c q.pe = netF c pe)
def orH (c : Cf) (pe : Int) (q : Rt) : Bool := !decide (netF c q.pe = netF c pe)
theorem take_snoc {α : Type} (l : List α) (i : Nat) (h : i < l.length) : l.take (i + 1) = l.take i ++ [l[i]] := by
  rw [List.take_add_one, List.getElem?_eq_getElem h]; rfl
theorem MaxI.bd {f : Rt → Bool} {l : List Rt} {m : Int} (h : MaxI f l m) (hok : RtOK l) : -1 ≤ m ∧ m ≤ 16 := by
  rcases h.ex with e | ⟨r, hr, _, e⟩
  · omega
  · obtain ⟨p0, p1, _⟩ := prefOK_bd (hok r hr).2.1
    omega
theorem net_cells {x : Nat} {c : Cf} {rv lv : Value} {lk : Bool} {hd : Hd} {tv : Tb} (n : Nat) (hn : n ≤ 3) : (runC x c rv lv lk hd tv)[3 + n]? = some (.int .i64 (netF c n)) := by
  have : n = 0 ∨ n = 1 ∨ n = 2 ∨ n = 3 := by omega
  rcases this with rfl | rfl | rfl | rfl <;> rfl
theorem pk_small (n : Nat) (h : n ≤ 3) : pk (n : Int) 4 = (n : Int) := by
  unfold pk
  rw [if_neg (by omega)]
  omega
theorem ds_pref {tx : ByteArray} (hd : (decS tx).isSome = true) : prefOK (dsB tx) (dsL tx) = true := by
  unfold dsB dsL
  split
  · rename_i h
    exact p0S_pref (dS_ne hd) h
  · rfl

set_option maxHeartbeats 3200000 in
theorem origin_any {r : Nat} {cs : Array Value} {c : Cf} {ro : Option Addr} {rc : Nat} {rts : List Rt} (q : Rl) (s : Int) (w : World) (hW : w.heap[r]? = some (.cells cs 36 (0, 0))) (h7 : cs[7]? = some (.slice ro rts.length rc)) (hnet : ∀ n : Nat, n ≤ 3 → cs[3 + n]? = some (.int .i64 (netF c n))) (hin : RtIn w ro rts) (hok : RtOK rts) (h24 : rts.length ≤ 24) (hd : (decS q.tx).isSome = true) (hs : q.tx.size ≤ 140737488351232) (hpe : peOK q.pe = true) :
    Calls Tryz.prog 13 #[.pointer (some ⟨r, 0, none⟩), .agg #[.string q.tx, .int .i64 q.pe, .int .i64 q.ac, .int .i64 s]] w fun e w' => (∃ lo ow, e = .returned (.tuple #[.bool (decide (0 ≤ ow) && decide (ow = lo)), .bool (rts.any (orH c q.pe))]) ∧ MaxI (orF q.tx) rts lo ∧ MaxI (orG c q.tx q.pe) rts ow) ∧ Below w.heap.size w w' := by
  have hrz := lt_of_block hW
  have c7 : w.cell? ⟨r, 7, none⟩ = some (.slice ro rts.length rc) := by rw [cell_of_row w r 7 cs _ _ hW]; exact h7
  have HNT : Hid (∀ n : Nat, n ≤ 3 → w.cell? ⟨r, 3 + n, none⟩ = some (.int .i64 (netF c n))) := fun n hn => by rw [cell_of_row w r (3 + n) cs _ _ hW]; exact hnet n hn
  have HI : Hid (RtIn w ro rts) := hin
  have HOK : Hid (RtOK rts) := hok
  obtain ⟨tx, pe, ac⟩ := q
  simp only [] at hd hs hpe ⊢
  obtain ⟨m, rfl⟩ : ∃ m : Nat, pe = (m : Int) := ⟨pe.toNat, by have := peOK_bd hpe; omega⟩
  have hm3 : m ≤ 3 := by have := peOK_bd hpe; omega
  have HDC : Hid (∀ w, Calls Tryz.prog 31 #[.string tx] w fun e w' => e = .returned (.tuple #[.agg #[.int .i64 (dsB tx), .int .i64 (dsL tx)], .bool (decide ((p0S tx).ty = 1))]) ∧ Below w.heap.size w w') := fun w => kdest_any tx w hd hs
  have HDP : Hid (prefOK (dsB tx) (dsL tx) = true) := ds_pref hd
  have HPK : Hid (∀ w, Calls Tryz.prog 32 #[.int .i64 (m : Int), .int .i64 4] w fun e w' => e = .returned (.int .i64 (m : Int)) ∧ w' = w) := fun w => by
    have := pick_any (m : Int) 4 w (by omega) (by omega) (by omega) (by omega)
    rw [pk_small m hm3] at this
    exact this.mono fun _ _ h => ⟨h.1, h.2.symm⟩
  have HORF : Hid (∀ q : Rt, orF tx q = (decide ((p0S tx).ty = 1) && cov q.bt q.ln (dsB tx) (dsL tx))) := fun _ => rfl
  have HORG : Hid (∀ q : Rt, orG c tx (m : Int) q = (orF tx q && decide (netF c q.pe = netF c (m : Int)))) := fun _ => rfl
  have HORH : Hid (∀ q : Rt, orH c (m : Int) q = !decide (netF c q.pe = netF c (m : Int))) := fun _ => rfl
  clear hW h7 hnet hin hok hd hs hpe
  generalize orF tx = f at *
  generalize orG c tx (m : Int) = g at *
  generalize orH c (m : Int) = hh at *
  obtain ⟨OT, hOT⟩ : ∃ OT, OT = rts.any hh := ⟨_, rfl⟩
  have HOT : Hid (OT = rts.any hh) := hOT
  rw [← hOT]
  clear hOT
  generalize decide ((p0S tx).ty = 1) = ok at *
  generalize dsB tx = db at *
  generalize dsL tx = dl at *
  go_enter Tryz.func13, Tryz.ntmps13
  go_wp2_with (go_at_call 31; refine (HDC.out _).mono ?_; rintro e w1 ⟨rfl, hb1⟩; have hbw1 := below_first hb1)
  obtain ⟨W, hWe⟩ : ∃ W, W = w1.alloc (.cells #[.int .i64 db, .int .i64 dl] 67) := ⟨_, rfl⟩
  rw [← hWe]
  have s1 : w1.cell? ⟨w.heap.size, 1, none⟩ = some (.int .i64 (m : Int)) := (hb1.cell (p := ⟨w.heap.size, 1, none⟩) (by simp)).trans (by simp [go_sem])
  have hz1 := hb1.size
  simp only [World.size_alloc] at hz1
  have hbW : Below w.heap.size w W := by rw [hWe]; exact hbw1.alloc hbw1.size _
  have t1 : W.cell? ⟨w.heap.size, 1, none⟩ = some (.int .i64 (m : Int)) := by rw [hWe]; exact ((below_alloc w1 _).cell (p := ⟨w.heap.size, 1, none⟩) (by show w.heap.size < w1.heap.size; omega)).trans s1
  have HPV : Hid (PfVar W w1.heap.size db dl) := by show _ = _; rw [hWe]; exact heap_alloc_new w1 _
  have hWz : w1.heap.size + 1 = W.heap.size := by rw [hWe]; simp
  have hWz2 : w1.heap.size < W.heap.size := by omega
  have hWz3 : w.heap.size < W.heap.size := by omega
  clear hWe hb1 s1 hbw1 hz1 hWz HDC
  have n0 := HNT.out m hm3
  generalize netF c (m : Int) = nm at *
  go_loopw [8, 9, 10, 11] (fun a b d x wr => ∃ (i : Nat) (lo ow : Int) (oth : Bool), a = .int .i64 lo ∧ b = .int .i64 ow ∧ d = .bool oth ∧ x = .int .i64 i ∧ i ≤ rts.length ∧ Hid (MaxI f (rts.take i) lo) ∧ Hid (MaxI g (rts.take i) ow) ∧ Hid (oth = (rts.take i).any hh) ∧ Below W.heap.size W wr) (fun _ _ _ x _ => rts.length - (intOf x).toNat)
  case atStart => exact ⟨0, -1, -1, false, rfl, rfl, rfl, rfl, Nat.zero_le _, MaxI.nil _, MaxI.nil _, rfl, Below.refl _ _⟩
  case round =>
    obtain ⟨i, lo, ow, oth, rfl, rfl, rfl, rfl, hil, HLO, HOW, HOH, hbel⟩ := hrel
    have hbw : Below w.heap.size w wr := hbW.trans (hbel.mono hbW.size)
    have k7 := (hbw.cell (p := ⟨r, 7, none⟩) hrz).trans c7
    have hzr := hbel.size
    by_cases hlt : i < rts.length
    · obtain ⟨rk, ro', rfl, bz2, d0, d1, d2, d3⟩ := HI.out.below hbw i hlt
      have htk := take_snoc rts i hlt
      obtain ⟨o1, o2, o3⟩ := HOK.out rts[i] (List.getElem_mem hlt)
      have HL2 : Hid (MaxI f (rts.take (i + 1)) (if f rts[i] = true ∧ lo < rts[i].ln then rts[i].ln else lo)) := by show MaxI _ _ _; rw [htk]; exact HLO.out.snoc _
      have HG2 : Hid (MaxI g (rts.take (i + 1)) (if g rts[i] = true ∧ ow < rts[i].ln then rts[i].ln else ow)) := by show MaxI _ _ _; rw [htk]; exact HOW.out.snoc _
      have HO2 : Hid ((rts.take (i + 1)).any hh = (oth || hh rts[i])) := by show _ = _; rw [htk, List.any_append, HOH.out]; simp
      have e1 := HORF.out rts[i]
      have e2 := HORG.out rts[i]
      have e3 := HORH.out rts[i]
      rw [e1] at e2
      rw [e1] at HL2
      rw [e2] at HG2
      rw [e3] at HO2
      clear htk e1 e2 e3 HLO HOW HOH HORF HORG HORH
      generalize rts[i] = q at *
      obtain ⟨qpe, qbt, qln, qpa⟩ := q
      simp only [] at d0 d1 d2 d3 o1 o2 HL2 HG2 HO2
      obtain ⟨n, rfl⟩ : ∃ n : Nat, qpe = (n : Int) := ⟨qpe.toNat, by have := peOK_bd o1; omega⟩
      have hn3 : n ≤ 3 := by have := peOK_bd o1; omega
      have n1 := HNT.out n hn3
      have HCV : Hid (∀ w, Calls Tryz.prog 33 #[.agg #[.int .i64 qbt, .int .i64 qln], .agg #[.int .i64 db, .int .i64 dl]] w fun e w' => e = .returned (.bool (cov qbt qln db dl)) ∧ Below w.heap.size w w') := fun w => within_cov qbt qln db dl w o2 HDP.out
      clear o1 o2 o3
      generalize netF c (n : Int) = nn at *
      generalize cov qbt qln db dl = cv at *
      -- worlds
      obtain ⟨wA, hwA⟩ : ∃ wA, wA = wr.alloc (.cells #[.int .i64 (n : Int), .int .i64 qbt, .int .i64 qln, .int .i64 qpa] 69) := ⟨_, rfl⟩
      have HWA : Hid (wA = wr.alloc (.cells #[.int .i64 (n : Int), .int .i64 qbt, .int .i64 qln, .int .i64 qpa] 69)) := hwA
      have hbA : Below wr.heap.size wr wA := by rw [hwA]; exact below_alloc _ _
      have hA : wA.heap[wr.heap.size]? = some (.cells #[.int .i64 (n : Int), .int .i64 qbt, .int .i64 qln, .int .i64 qpa] 69 (0, 0)) := by rw [hwA]; exact heap_alloc_new wr _
      have hbWA : Below W.heap.size W wA := hbel.trans (hbA.mono hzr)
      have hbwA : Below w.heap.size w wA := hbW.trans (hbWA.mono hbW.size)
      clear hwA
      have y0 := (hbwA.cell (p := ⟨r, 3 + m, none⟩) hrz).trans n0
      have y1 := (hbwA.cell (p := ⟨r, 3 + n, none⟩) hrz).trans n1
      have y2 := (hbWA.cell (p := ⟨w.heap.size, 1, none⟩) hWz3).trans t1
      have a0 := cell_of_row wA wr.heap.size 0 _ _ _ hA
      have im : (m : Int) < 4 := by omega
      have in_ : (n : Int) < 4 := by omega
      have HAF : Hid (∀ W', Below wA.heap.size wA W' → W'.cell? ⟨wr.heap.size, 1, none⟩ = some (.int .i64 qbt) ∧ W'.cell? ⟨wr.heap.size, 2, none⟩ = some (.int .i64 qln) ∧ PfVar W' w1.heap.size db dl) := fun W' h' => ⟨(h'.cell (p := ⟨wr.heap.size, 1, none⟩) (lt_of_block hA)).trans (cell_of_row wA wr.heap.size 1 _ _ _ hA), (h'.cell (p := ⟨wr.heap.size, 2, none⟩) (lt_of_block hA)).trans (cell_of_row wA wr.heap.size 2 _ _ _ hA), (HPV.out.below hbWA).below h'⟩
      go_upto_region 9 with fail
      rw [← HWA.out]
      go_quiet ((go_at_call 32; exact Calls.quiet_of_same (HPK.out _)))
      obtain ⟨p1, p2, hpv⟩ := HAF.out _ (below_drewN (Below.refl _ _) nq)
      obtain ⟨v0, v1, _, _⟩ := hpv.get
      clear hpv y0 y1 y2 a0 d0 d1 d2 d3 n1
      by_cases hm : nn = nm
      · cases ok
        · have HL3 : Hid (MaxI f (rts.take (i + 1)) lo) := by show MaxI _ _ _; have h9 := HL2.out; rw [if_neg (by simp)] at h9; exact h9
          have HG3 : Hid (MaxI g (rts.take (i + 1)) ow) := by show MaxI _ _ _; have h9 := HG2.out; rw [if_neg (by simp)] at h9; exact h9
          have HO3 : Hid (oth = (rts.take (i + 1)).any hh) := by show _ = _; rw [HO2.out]; simp [hm]
          have g1 : (nn == nm) = true := by simpa using hm
          clear HL2 HG2 HO2 hm
          go_wp2_with (go_at_call 33; refine (HCV.out _).mono ?_; rintro e w2 ⟨rfl, hb2⟩; obtain ⟨x1, x2, _⟩ := HAF.out w2 ((below_drewN (Below.refl _ _) nq).trans (hb2.mono (by simp))))
          go_roundw
          case rel => exact ⟨i + 1, lo, ow, oth, rfl, rfl, rfl, by go_num, by omega, HL3, HG3, HO3, hbWA.trans (((below_drewN (Below.refl _ _) nq).trans (hb2.mono (by simp))).mono hbWA.size)⟩
          case measure => simp [intOf]; omega
        · cases cv
          · have HL3 : Hid (MaxI f (rts.take (i + 1)) lo) := by show MaxI _ _ _; have h9 := HL2.out; rw [if_neg (by simp)] at h9; exact h9
            have HG3 : Hid (MaxI g (rts.take (i + 1)) ow) := by show MaxI _ _ _; have h9 := HG2.out; rw [if_neg (by simp)] at h9; exact h9
            have HO3 : Hid (oth = (rts.take (i + 1)).any hh) := by show _ = _; rw [HO2.out]; simp [hm]
            have g1 : (nn == nm) = true := by simpa using hm
            clear HL2 HG2 HO2 hm
            go_wp2_with (go_at_call 33; refine (HCV.out _).mono ?_; rintro e w2 ⟨rfl, hb2⟩; obtain ⟨x1, x2, _⟩ := HAF.out w2 ((below_drewN (Below.refl _ _) nq).trans (hb2.mono (by simp))))
            go_roundw
            case rel => exact ⟨i + 1, lo, ow, oth, rfl, rfl, rfl, by go_num, by omega, HL3, HG3, HO3, hbWA.trans (((below_drewN (Below.refl _ _) nq).trans (hb2.mono (by simp))).mono hbWA.size)⟩
            case measure => simp [intOf]; omega
          · simp only [Bool.and_true, Bool.true_and] at HL2 HG2
            by_cases ha : lo < qln
            · by_cases hb : ow < qln
              · have HL3 : Hid (MaxI f (rts.take (i + 1)) qln) := by show MaxI _ _ _; have h9 := HL2.out; rw [if_pos ⟨by simp, ha⟩] at h9; exact h9
                have HG3 : Hid (MaxI g (rts.take (i + 1)) qln) := by show MaxI _ _ _; have h9 := HG2.out; rw [if_pos ⟨by simp [hm], hb⟩] at h9; exact h9
                have HO3 : Hid (oth = (rts.take (i + 1)).any hh) := by show _ = _; rw [HO2.out]; simp [hm]
                have g1 : (nn == nm) = true := by simpa using hm
                have i1 : decide (lo < qln) = true := by simpa using ha
                have i2 : decide (ow < qln) = true := by simpa using hb
                clear HL2 HG2 HO2 hm ha hb
                go_wp2_with (go_at_call 33; refine (HCV.out _).mono ?_; rintro e w2 ⟨rfl, hb2⟩; obtain ⟨x1, x2, _⟩ := HAF.out w2 ((below_drewN (Below.refl _ _) nq).trans (hb2.mono (by simp))))
                go_roundw
                case rel => exact ⟨i + 1, qln, qln, oth, rfl, rfl, rfl, by go_num, by omega, HL3, HG3, HO3, hbWA.trans (((below_drewN (Below.refl _ _) nq).trans (hb2.mono (by simp))).mono hbWA.size)⟩
                case measure => simp [intOf]; omega
              · have HL3 : Hid (MaxI f (rts.take (i + 1)) qln) := by show MaxI _ _ _; have h9 := HL2.out; rw [if_pos ⟨by simp, ha⟩] at h9; exact h9
                have HG3 : Hid (MaxI g (rts.take (i + 1)) ow) := by show MaxI _ _ _; have h9 := HG2.out; rw [if_neg (fun h => hb h.2)] at h9; exact h9
                have HO3 : Hid (oth = (rts.take (i + 1)).any hh) := by show _ = _; rw [HO2.out]; simp [hm]
                have g1 : (nn == nm) = true := by simpa using hm
                have i1 : decide (lo < qln) = true := by simpa using ha
                have i2 : decide (ow < qln) = false := by simpa using hb
                clear HL2 HG2 HO2 hm ha hb
                go_wp2_with (go_at_call 33; refine (HCV.out _).mono ?_; rintro e w2 ⟨rfl, hb2⟩; obtain ⟨x1, x2, _⟩ := HAF.out w2 ((below_drewN (Below.refl _ _) nq).trans (hb2.mono (by simp))))
                go_roundw
                case rel => exact ⟨i + 1, qln, ow, oth, rfl, rfl, rfl, by go_num, by omega, HL3, HG3, HO3, hbWA.trans (((below_drewN (Below.refl _ _) nq).trans (hb2.mono (by simp))).mono hbWA.size)⟩
                case measure => simp [intOf]; omega
            · by_cases hb : ow < qln
              · have HL3 : Hid (MaxI f (rts.take (i + 1)) lo) := by show MaxI _ _ _; have h9 := HL2.out; rw [if_neg (fun h => ha h.2)] at h9; exact h9
                have HG3 : Hid (MaxI g (rts.take (i + 1)) qln) := by show MaxI _ _ _; have h9 := HG2.out; rw [if_pos ⟨by simp [hm], hb⟩] at h9; exact h9
                have HO3 : Hid (oth = (rts.take (i + 1)).any hh) := by show _ = _; rw [HO2.out]; simp [hm]
                have g1 : (nn == nm) = true := by simpa using hm
                have i1 : decide (lo < qln) = false := by simpa using ha
                have i2 : decide (ow < qln) = true := by simpa using hb
                clear HL2 HG2 HO2 hm ha hb
                go_wp2_with (go_at_call 33; refine (HCV.out _).mono ?_; rintro e w2 ⟨rfl, hb2⟩; obtain ⟨x1, x2, _⟩ := HAF.out w2 ((below_drewN (Below.refl _ _) nq).trans (hb2.mono (by simp))))
                go_roundw
                case rel => exact ⟨i + 1, lo, qln, oth, rfl, rfl, rfl, by go_num, by omega, HL3, HG3, HO3, hbWA.trans (((below_drewN (Below.refl _ _) nq).trans (hb2.mono (by simp))).mono hbWA.size)⟩
                case measure => simp [intOf]; omega
              · have HL3 : Hid (MaxI f (rts.take (i + 1)) lo) := by show MaxI _ _ _; have h9 := HL2.out; rw [if_neg (fun h => ha h.2)] at h9; exact h9
                have HG3 : Hid (MaxI g (rts.take (i + 1)) ow) := by show MaxI _ _ _; have h9 := HG2.out; rw [if_neg (fun h => hb h.2)] at h9; exact h9
                have HO3 : Hid (oth = (rts.take (i + 1)).any hh) := by show _ = _; rw [HO2.out]; simp [hm]
                have g1 : (nn == nm) = true := by simpa using hm
                have i1 : decide (lo < qln) = false := by simpa using ha
                have i2 : decide (ow < qln) = false := by simpa using hb
                clear HL2 HG2 HO2 hm ha hb
                go_wp2_with (go_at_call 33; refine (HCV.out _).mono ?_; rintro e w2 ⟨rfl, hb2⟩; obtain ⟨x1, x2, _⟩ := HAF.out w2 ((below_drewN (Below.refl _ _) nq).trans (hb2.mono (by simp))))
                go_roundw
                case rel => exact ⟨i + 1, lo, ow, oth, rfl, rfl, rfl, by go_num, by omega, HL3, HG3, HO3, hbWA.trans (((below_drewN (Below.refl _ _) nq).trans (hb2.mono (by simp))).mono hbWA.size)⟩
                case measure => simp [intOf]; omega
      · cases ok
        · have HL3 : Hid (MaxI f (rts.take (i + 1)) lo) := by show MaxI _ _ _; have h9 := HL2.out; rw [if_neg (by simp)] at h9; exact h9
          have HG3 : Hid (MaxI g (rts.take (i + 1)) ow) := by show MaxI _ _ _; have h9 := HG2.out; rw [if_neg (by simp)] at h9; exact h9
          have HO3 : Hid (true = (rts.take (i + 1)).any hh) := by show _ = _; rw [HO2.out]; simp [hm]
          have g1 : (nn == nm) = false := by simpa using hm
          clear HL2 HG2 HO2 hm
          go_wp2_with (go_at_call 33; refine (HCV.out _).mono ?_; rintro e w2 ⟨rfl, hb2⟩; obtain ⟨x1, x2, _⟩ := HAF.out w2 ((below_drewN (Below.refl _ _) nq).trans (hb2.mono (by simp))))
          go_roundw
          case rel => exact ⟨i + 1, lo, ow, true, rfl, rfl, rfl, by go_num, by omega, HL3, HG3, HO3, hbWA.trans (((below_drewN (Below.refl _ _) nq).trans (hb2.mono (by simp))).mono hbWA.size)⟩
          case measure => simp [intOf]; omega
        · cases cv
          · have HL3 : Hid (MaxI f (rts.take (i + 1)) lo) := by show MaxI _ _ _; have h9 := HL2.out; rw [if_neg (by simp)] at h9; exact h9
            have HG3 : Hid (MaxI g (rts.take (i + 1)) ow) := by show MaxI _ _ _; have h9 := HG2.out; rw [if_neg (by simp)] at h9; exact h9
            have HO3 : Hid (true = (rts.take (i + 1)).any hh) := by show _ = _; rw [HO2.out]; simp [hm]
            have g1 : (nn == nm) = false := by simpa using hm
            clear HL2 HG2 HO2 hm
            go_wp2_with (go_at_call 33; refine (HCV.out _).mono ?_; rintro e w2 ⟨rfl, hb2⟩; obtain ⟨x1, x2, _⟩ := HAF.out w2 ((below_drewN (Below.refl _ _) nq).trans (hb2.mono (by simp))))
            go_roundw
            case rel => exact ⟨i + 1, lo, ow, true, rfl, rfl, rfl, by go_num, by omega, HL3, HG3, HO3, hbWA.trans (((below_drewN (Below.refl _ _) nq).trans (hb2.mono (by simp))).mono hbWA.size)⟩
            case measure => simp [intOf]; omega
          · simp only [Bool.and_true, Bool.true_and] at HL2 HG2
            by_cases ha : lo < qln
            · have HL3 : Hid (MaxI f (rts.take (i + 1)) qln) := by show MaxI _ _ _; have h9 := HL2.out; rw [if_pos ⟨by simp, ha⟩] at h9; exact h9
              have HG3 : Hid (MaxI g (rts.take (i + 1)) ow) := by show MaxI _ _ _; have h9 := HG2.out; rw [if_neg (by simp [hm])] at h9; exact h9
              have HO3 : Hid (true = (rts.take (i + 1)).any hh) := by show _ = _; rw [HO2.out]; simp [hm]
              have g1 : (nn == nm) = false := by simpa using hm
              have i1 : decide (lo < qln) = true := by simpa using ha
              clear HL2 HG2 HO2 hm ha
              go_wp2_with (go_at_call 33; refine (HCV.out _).mono ?_; rintro e w2 ⟨rfl, hb2⟩; obtain ⟨x1, x2, _⟩ := HAF.out w2 ((below_drewN (Below.refl _ _) nq).trans (hb2.mono (by simp))))
              go_roundw
              case rel => exact ⟨i + 1, qln, ow, true, rfl, rfl, rfl, by go_num, by omega, HL3, HG3, HO3, hbWA.trans (((below_drewN (Below.refl _ _) nq).trans (hb2.mono (by simp))).mono hbWA.size)⟩
              case measure => simp [intOf]; omega
            · have HL3 : Hid (MaxI f (rts.take (i + 1)) lo) := by show MaxI _ _ _; have h9 := HL2.out; rw [if_neg (fun h => ha h.2)] at h9; exact h9
              have HG3 : Hid (MaxI g (rts.take (i + 1)) ow) := by show MaxI _ _ _; have h9 := HG2.out; rw [if_neg (by simp [hm])] at h9; exact h9
              have HO3 : Hid (true = (rts.take (i + 1)).any hh) := by show _ = _; rw [HO2.out]; simp [hm]
              have g1 : (nn == nm) = false := by simpa using hm
              have i1 : decide (lo < qln) = false := by simpa using ha
              clear HL2 HG2 HO2 hm ha
              go_wp2_with (go_at_call 33; refine (HCV.out _).mono ?_; rintro e w2 ⟨rfl, hb2⟩; obtain ⟨x1, x2, _⟩ := HAF.out w2 ((below_drewN (Below.refl _ _) nq).trans (hb2.mono (by simp))))
              go_roundw
              case rel => exact ⟨i + 1, lo, ow, true, rfl, rfl, rfl, by go_num, by omega, HL3, HG3, HO3, hbWA.trans (((below_drewN (Below.refl _ _) nq).trans (hb2.mono (by simp))).mono hbWA.size)⟩
              case measure => simp [intOf]; omega
    · have HFL : Hid (MaxI f rts lo) := by show MaxI _ _ _; have h9 := HLO.out; rw [List.take_of_length_le (by omega)] at h9; exact h9
      have HFG : Hid (MaxI g rts ow) := by show MaxI _ _ _; have h9 := HOW.out; rw [List.take_of_length_le (by omega)] at h9; exact h9
      have HFO : Hid (OT = oth) := by show _ = _; rw [HOT.out, HOH.out, List.take_of_length_le (by omega)]
      clear HLO HOW HOH HOT
      by_cases h0 : 0 ≤ ow
      · have e0 : decide (0 ≤ ow) = true := by simpa using h0
        by_cases h1 : ow = lo
        · have e1 : (ow == lo) = true := by simpa using h1
          have HQ : Hid ((decide (0 ≤ ow) && decide (ow = lo)) = true) := by show _ = _; rw [e0, decide_eq_true h1]; rfl
          clear h0 h1
          go_wp2_with fail
          go_ret2
          exact ⟨⟨lo, ow, by rw [HQ.out, HFO.out]; rfl, HFL.out, HFG.out⟩, hbw⟩
        · have e1 : (ow == lo) = false := by simpa using h1
          have HQ : Hid ((decide (0 ≤ ow) && decide (ow = lo)) = false) := by show _ = _; rw [e0, decide_eq_false h1]; rfl
          clear h0 h1
          go_wp2_with fail
          go_ret2
          exact ⟨⟨lo, ow, by rw [HQ.out, HFO.out]; rfl, HFL.out, HFG.out⟩, hbw⟩
      · have e0 : decide (0 ≤ ow) = false := by simpa using h0
        have HQ : Hid ((decide (0 ≤ ow) && decide (ow = lo)) = false) := by show _ = _; rw [e0]; rfl
        clear h0
        go_wp2_with fail
        go_ret2
        exact ⟨⟨lo, ow, by rw [HQ.out, HFO.out]; rfl, HFL.out, HFG.out⟩, hbw⟩
end Go.Proofs.YtgkiknfpcbcnnabGreat

namespace Go.Proofs.YtgkiknfpcbcnnabGreat
open Go.RowKit
set_option maxRecDepth 20000

/-- A state is Invalid just if the rule does not hold. -/
theorem stF_zero' (c : Cf) (rts : List Rt) : ∀ (l : List Rl) (a : ByteArray) (t : Int) (f : Bool) (i : Nat) (h1 : i < l.length) (v : Int), (stF c rts a t f l)[i]? = some v → (v = 0 ↔ holdS c rts l[i] = false) := by
  intro l
  induction l with
  | nil => intro a t f i h1; simp at h1
  | cons r l ih =>
    intro a t f i h1 v hv
    simp only [stF] at hv
    cases i with
    | zero =>
      simp only [List.getElem_cons_zero]
      cases hh : holdS c rts r
      · rw [hh] at hv
        simp at hv
        simp [hv]
      · rw [hh] at hv
        simp only [if_true] at hv
        split at hv
        · simp at hv
          simp [← hv]
        · simp only [List.getElem?_cons_zero, Option.some.injEq] at hv
          split at hv
          · simp [← hv]
          · simp [← hv]
    | succ i =>
      have hl : i < l.length := by simpa using h1
      simp only [List.getElem_cons_succ]
      split at hv
      · split at hv
        · exact ih _ _ _ i hl v (by simpa using hv)
        · exact ih _ _ _ i hl v (by simpa using hv)
      · exact ih _ _ _ i hl v (by simpa using hv)
theorem stF_zero (c : Cf) (rts : List Rt) (l : List Rl) (a : ByteArray) (t : Int) (f : Bool) (i : Nat) (h1 : i < l.length) (h2 : i < (stF c rts a t f l).length) : (stF c rts a t f l)[i] = 0 ↔ holdS c rts l[i] = false :=
  stF_zero' c rts l a t f i h1 _ (List.getElem?_eq_getElem h2)
/-- What origin tells of a rule, and whether it holds (P11). -/
theorem origin_ok {c : Cf} {rts : List Rt} (h : RtOK rts) {q : Rl} (hd : (decS q.tx).isSome = true) (hpe : peOK q.pe = true) {lo ow : Int} (hlo : MaxI (orF q.tx) rts lo) (how : MaxI (orG c q.tx q.pe) rts ow) :
    (holdS c rts q = true → (decide (0 ≤ ow) && decide (ow = lo)) = true) ∧ (holdS c rts q = false → ((decide (0 ≤ ow) && decide (ow = lo)) && !rts.any (orH c q.pe)) = false) := by
  by_cases hty : (p0S q.tx).ty = 1
  · have hp := p0S_pref (dS_ne hd) hty
    have e1 : orF q.tx = fun r => cov r.bt r.ln (p0S q.tx).bt (p0S q.tx).ln := by
      funext r
      unfold orF dsB dsL
      rw [if_pos hty, if_pos hty, decide_eq_true hty]
      rfl
    have e2 : orG c q.tx q.pe = fun r => cov r.bt r.ln (p0S q.tx).bt (p0S q.tx).ln && decide (netF c r.pe = netF c q.pe) := by
      funext r
      unfold orG
      rw [e1]
    rw [e1] at hlo
    rw [e2] at how
    constructor
    · intro hh
      have := own_of_holds h hty hp hpe hlo how hh
      simp only [Bool.and_eq_true, decide_eq_true_eq]
      exact this
    · intro hh
      cases hx : ((decide (0 ≤ ow) && decide (ow = lo)) && !rts.any (orH c q.pe))
      · rfl
      · simp only [Bool.and_eq_true, decide_eq_true_eq, Bool.not_eq_true'] at hx
        have hall : ∀ r ∈ rts, netF c r.pe = netF c q.pe := fun r hr => by
          have := List.any_eq_false.1 hx.2 r hr
          unfold orH at this
          simpa using this
        have := holds_of_own h hty hp hpe how hx.1.1 hall
        have hh' : holdsP c rts (p0S q.tx) q.pe = false := hh
        rw [this] at hh'
        cases hh'
  · constructor
    · intro hh
      have hh' : holdsP c rts (p0S q.tx) q.pe = true := hh
      unfold holdsP at hh'
      rw [decide_eq_false hty] at hh'
      simp at hh'
    · intro _
      have : ow = -1 := by
        rcases how.ex with e | ⟨r, _, hf, _⟩
        · exact e
        · unfold orG orF at hf
          rw [decide_eq_false hty] at hf
          simp at hf
      subst this
      rfl

theorem RunI.routes {X : XGate} {B : Nat} {w : World} {r x : Nat} {c : Cf} {lk : Bool} {hd : Hd} {gs : Nat → Option Obj} {rts : List Rt} {rls : List Rl} (h : RunI X B w r x c lk hd gs rts rls) : ∃ ro rc cs, w.heap[r]? = some (.cells cs 36 (0, 0)) ∧ cs[7]? = some (.slice ro rts.length rc) ∧ (∀ n : Nat, n ≤ 3 → cs[3 + n]? = some (.int .i64 (netF c n))) ∧ RtIn w ro rts := by
  obtain ⟨tv, rv, lv, st, F, hj, hs, _⟩ := h.ex
  obtain ⟨ro, rc, rfl⟩ := ownsRow_shape hj.rrow
  exact ⟨ro, rc, _, hj.cell, rfl, fun n hn => net_cells n hn, rtIn_of hj.rrow⟩
set_option maxHeartbeats 1600000 in
theorem originLaw_any (X : XGate) (c : Cf) (l : List StS) (ao : Option Addr) (cap : Nat) (w : World) (h : CfI c) (hl : l.length ≤ 9223372036854775807) (hs : StepsB w w.heap.size ao l) :
    Calls Tryz.prog 4 #[cfV c, .slice ao l.length cap] w fun e w' => e = .returned (.bool true) ∧ Below w.heap.size w w' := by
  have HP : Hid (∀ w, StepsB w w.heap.size ao l → Calls Tryz.prog 9 #[cfV c, .slice ao l.length cap] w fun e w' => ∃ r x rts rls, e = .returned (.pointer (some ⟨r, 0, none⟩)) ∧ RunI X (w.heap.size + 1) w' r x (fitC c) false ⟨0, 0, 0, 0, 0, false⟩ gs0 rts rls ∧ Below w.heap.size w w') := fun w hs => played_any X c l ao cap w h hl hs
  have hs1 := (hs.below ((Below.refl _ w).alloc (Nat.le_refl _) (.cells #[.int .i64 c.cp, .int .i64 c.bu, .int .i64 c.n0, .int .i64 c.n1, .int .i64 c.n2, .int .i64 c.n3] 24))).mono (Nat.le_succ _)
  have HS : Hid (StepsB (w.alloc (.cells #[.int .i64 c.cp, .int .i64 c.bu, .int .i64 c.n0, .int .i64 c.n1, .int .i64 c.n2, .int .i64 c.n3] 24)) (w.heap.size + 1) ao l) := hs1
  clear h hs hl hs1
  unfold cfV
  unfold cfV at HP
  go_enter Tryz.func4, Tryz.ntmps4
  go_wp2_with fail
  refine (HP.out _ (by simp only [World.size_alloc]; exact HS.out)).mono ?_
  rintro e w1 ⟨r, x, rts, rls, rfl, hr1, hb1⟩
  have HB1 : Hid (Below w.heap.size w w1) := (below_alloc w _).trans (hb1.mono (by simp))
  clear HP HS hb1
  have hc0 : w1.cell? ⟨r, 0, none⟩ = some (.pointer (some ⟨x, 0, none⟩)) := by
    obtain ⟨tv, rv, lv, st, F, hj, _, _⟩ := hr1.ex
    exact cell_of_row w1 r 0 _ _ _ hj.cell
  have HST : Hid (Calls Tryz.prog 10 #[.pointer (some ⟨x, 0, none⟩)] w1 fun e w' => ∃ ao cap, e = .returned (.slice ao rls.length cap) ∧ TRow w' w1.heap.size (.slice ao rls.length cap) (stats ⟨fitC c, rts, rls⟩) ∧ RunI X (w.heap.size + 1 + 1) w' r x (fitC c) false ⟨0, 0, 0, 0, 0, false⟩ gs0 rts rls ∧ Below (w.heap.size + 1 + 1) w1 w') := by
    simp only [World.size_alloc] at hr1
    exact hr1.status
  have h24 := hr1.r24
  clear hr1
  go_wp2_with fail
  refine HST.out.mono ?_
  rintro e w2 ⟨so, sc, rfl, ht, hr2, hb2⟩
  have HB2 : Hid (Below w.heap.size w w2) := HB1.out.trans (hb2.mono (by omega))
  clear hb2 HB1 HST hc0
  have HGK : Hid (GsOK ⟨fitC c, rts, rls⟩) := hr2.gok
  have h8 : ∃ lo lc, w2.cell? ⟨r, 8, none⟩ = some (.slice lo rls.length lc) := by
    obtain ⟨tv, rv, lv, st, F, hj, _, _⟩ := hr2.ex
    obtain ⟨ro, rc, lo, lc, _, _, _, _, k8, _⟩ := hj.read
    exact ⟨lo, lc, k8⟩
  obtain ⟨lo, lc, c8⟩ := h8
  obtain ⟨ro, rc, cs, q1, q2, q3, q4⟩ := hr2.routes
  have hrz := lt_of_block q1
  have HOR : Hid (∀ (q : Rl) (s : Int) W, q ∈ rls → Below w2.heap.size w2 W → Calls Tryz.prog 13 #[.pointer (some ⟨r, 0, none⟩), .agg #[.string q.tx, .int .i64 q.pe, .int .i64 q.ac, .int .i64 s]] W fun e w' => (∃ a b : Bool, e = .returned (.tuple #[.bool a, .bool b]) ∧ (holdS (fitC c) rts q = true → a = true) ∧ (holdS (fitC c) rts q = false → (a && !b) = false)) ∧ Below W.heap.size W w') := fun q s W hq hW => by
    have hrl := HGK.out.rl q hq
    refine (origin_any (c := fitC c) q s W ((hW.block r hrz).trans q1) q2 q3 (q4.below hW) HGK.out.rt HGK.out.r24 hrl.2.1 (text_size hrl.2.1) hrl.1).mono ?_
    rintro e w' ⟨⟨lo, ow, rfl, m1, m2⟩, hb⟩
    have ho := origin_ok (c := fitC c) HGK.out.rt hrl.2.1 hrl.1 m1 m2
    exact ⟨⟨_, _, rfl, ho.1, ho.2⟩, hb⟩
  have HRW : Hid (∀ i, i < rls.length → ∃ g q s, so = some ⟨g, 0, none⟩ ∧ g < w2.heap.size ∧ q ∈ rls ∧ (s = 0 ↔ holdS (fitC c) rts q = false) ∧ w2.cell? ⟨g, i * 4, none⟩ = some (.string q.tx) ∧ w2.cell? ⟨g, i * 4 + 1, none⟩ = some (.int .i64 q.pe) ∧ w2.cell? ⟨g, i * 4 + 2, none⟩ = some (.int .i64 q.ac) ∧ w2.cell? ⟨g, i * 4 + 3, none⟩ = some (.int .i64 s)) := fun i hi => by
    have hl : (stats ⟨fitC c, rts, rls⟩).length = rls.length := stats_len _
    obtain ⟨g, hg, hgz, hcs⟩ := TRow.get ht (by rw [hl]; omega)
    obtain ⟨c0, c1, c2, c3⟩ := hcs i (by rw [hl]; exact hi)
    obtain ⟨h1, h2, e1, e2⟩ := seg_row ⟨fitC c, rts, rls⟩ i (by rw [hl]; exact hi)
    refine ⟨g, (stats ⟨fitC c, rts, rls⟩)[i].1, (stats ⟨fitC c, rts, rls⟩)[i].2, hg, hgz, stats_mem ⟨fitC c, rts, rls⟩ i (by rw [hl]; exact hi), ?_, c0, c1, c2, c3⟩
    rw [e1, e2]
    exact stF_zero (fitC c) rts (sortR rls) ⟨#[]⟩ 0 false i h1 h2
  clear ht hr2 HGK q1 q2 q3 q4
  generalize rls.length = n at *
  have hnn : ((n : Int) != (n : Int)) = false := by simp
  go_wp2_with fail
  go_loopw [7] (fun y wr => ∃ i : Nat, y = .int .i64 i ∧ i ≤ n ∧ Below w2.heap.size w2 wr) (fun y _ => n - (intOf y).toNat)
  case atStart => exact ⟨0, rfl, Nat.zero_le _, Below.refl _ _⟩
  case round =>
    obtain ⟨i, rfl, hi, hbel⟩ := hrel
    have hz := hbel.size
    by_cases hlt : i < n
    · obtain ⟨g, q, s, rfl, hgz, hq, hs0, d0, d1, d2, d3⟩ := HRW.out i hlt
      have e0 := (hbel.cell (p := ⟨g, i * 4, none⟩) hgz).trans d0
      have e1 := (hbel.cell (p := ⟨g, i * 4 + 1, none⟩) hgz).trans d1
      have e2 := (hbel.cell (p := ⟨g, i * 4 + 2, none⟩) hgz).trans d2
      have e3 := (hbel.cell (p := ⟨g, i * 4 + 3, none⟩) hgz).trans d3
      have HOC := HOR.out q s wr hq hbel
      have HDD : Hid (∀ W, Below wr.heap.size wr W → W.cell? ⟨g, i * 4 + 3, none⟩ = some (.int .i64 s)) := fun W hW => (hW.cell (p := ⟨g, i * 4 + 3, none⟩) (by show g < wr.heap.size; omega)).trans e3
      have HS0 : Hid (s = 0 ↔ holdS (fitC c) rts q = false) := hs0
      generalize holdS (fitC c) rts q = hold at *
      obtain ⟨tx, pe, ac⟩ := q
      simp only [] at e0 e1 e2 HOC
      have HO2 : Hid (Calls Tryz.prog 13 #[.pointer (some ⟨r, 0, none⟩), .agg #[.string tx, .int .i64 pe, .int .i64 ac, .int .i64 s]] wr fun e w' => (∃ a b : Bool, e = .returned (.tuple #[.bool a, .bool b]) ∧ (hold = true → a = true) ∧ (hold = false → (a && !b) = false)) ∧ Below wr.heap.size wr w') := HOC
      clear HOC d0 d1 d2 d3 hs0 hq
      go_upto_region 11 with (go_at_call 13; refine HO2.out.mono ?_; rintro e w3 ⟨⟨a, b, rfl, ha, hb⟩, hb3⟩)
      have e3' := HDD.out w3 hb3
      have hb3' : Below w2.heap.size w2 w3 := hbel.trans (hb3.mono hz)
      cases hold
      · obtain rfl : s = 0 := HS0.out.2 rfl
        have hab := hb rfl
        clear ha hb HS0
        cases a
        · go_wp2_with fail
          go_roundw
          case rel => exact ⟨i + 1, by go_num, by omega, hb3'⟩
          case measure => simp [intOf]; omega
        · cases b
          · cases hab
          · clear hab
            go_wp2_with fail
            go_roundw
            case rel => exact ⟨i + 1, by go_num, by omega, hb3'⟩
            case measure => simp [intOf]; omega
      · obtain rfl := ha rfl
        have hsn : s ≠ 0 := fun e => by have := HS0.out.1 e; cases this
        have g1 : (s != 0) = true := by simpa using hsn
        have g2 : (s == 0) = false := by simpa using hsn
        clear ha hb HS0 hsn
        go_wp2_with fail
        go_roundw
        case rel => exact ⟨i + 1, by go_num, by omega, hb3'⟩
        case measure => simp [intOf]; omega
    · go_wp2_with fail
      go_ret
      exact ⟨rfl, HB2.out.trans (hbel.mono HB2.out.size)⟩
end Go.Proofs.YtgkiknfpcbcnnabGreat
