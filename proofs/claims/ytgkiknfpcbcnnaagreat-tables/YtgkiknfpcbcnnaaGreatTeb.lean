import Derived.Test.YtgkiknfpcbcnnaaGreatTea
import Derived.Test.YtgkiknfpcbcnnaaGreatGaj
import Derived.Test.YtgkiknfpcbcnnaaGreatTdb
import Derived.Deep.RegionHeld3
namespace Go.Proofs.YtgkiknfpcbcnnaaGreat
open Go.RowKit
set_option maxRecDepth 20000
theorem cellsW_S {w0 w' : World} {a b c d : Value} {t : TypeId} (h : Below (w0.alloc (.cells #[a, b, c, d] t)).heap.size (w0.alloc (.cells #[a, b, c, d] t)) w') : w'.cell? ⟨w0.heap.size, 0, none⟩ = some a ∧ w'.cell? ⟨w0.heap.size, 1, none⟩ = some b ∧ w'.cell? ⟨w0.heap.size, 2, none⟩ = some c ∧ w'.cell? ⟨w0.heap.size, 3, none⟩ = some d ∧ w0.heap.size < w'.heap.size := by
  have hb := (h.block w0.heap.size (by simp)).trans (heap_alloc_new w0 _)
  exact ⟨cell_of_row w' w0.heap.size 0 _ _ _ hb, cell_of_row w' w0.heap.size 1 _ _ _ hb, cell_of_row w' w0.heap.size 2 _ _ _ hb, cell_of_row w' w0.heap.size 3 _ _ _ hb, lt_of_block hb⟩
theorem cellsW_E {w0 w' : World} {a b c : Value} {t : TypeId} (h : Below (w0.alloc (.cells #[a, b, c] t)).heap.size (w0.alloc (.cells #[a, b, c] t)) w') : w'.cell? ⟨w0.heap.size, 0, none⟩ = some a ∧ w'.cell? ⟨w0.heap.size, 1, none⟩ = some b ∧ w'.cell? ⟨w0.heap.size, 2, none⟩ = some c ∧ w0.heap.size < w'.heap.size := by
  have hb := (h.block w0.heap.size (by simp)).trans (heap_alloc_new w0 _)
  exact ⟨cell_of_row w' w0.heap.size 0 _ _ _ hb, cell_of_row w' w0.heap.size 1 _ _ _ hb, cell_of_row w' w0.heap.size 2 _ _ _ hb, lt_of_block hb⟩
theorem cellsW_W {w0 w' : World} {a b c d e : Value} {t : TypeId} (h : Below (w0.alloc (.cells #[a, b, c, d, e] t)).heap.size (w0.alloc (.cells #[a, b, c, d, e] t)) w') : w'.cell? ⟨w0.heap.size, 0, none⟩ = some a ∧ w'.cell? ⟨w0.heap.size, 1, none⟩ = some b ∧ w'.cell? ⟨w0.heap.size, 2, none⟩ = some c ∧ w'.cell? ⟨w0.heap.size, 3, none⟩ = some d ∧ w'.cell? ⟨w0.heap.size, 4, none⟩ = some e ∧ w0.heap.size < w'.heap.size := by
  have hb := (h.block w0.heap.size (by simp)).trans (heap_alloc_new w0 _)
  exact ⟨cell_of_row w' w0.heap.size 0 _ _ _ hb, cell_of_row w' w0.heap.size 1 _ _ _ hb, cell_of_row w' w0.heap.size 2 _ _ _ hb, cell_of_row w' w0.heap.size 3 _ _ _ hb, cell_of_row w' w0.heap.size 4 _ _ _ hb, lt_of_block hb⟩
set_option maxHeartbeats 3200000 in
theorem whole3_any (wl : Nat) (so1 so2 so3 : Option Addr) (n1 sc1 n2 sc2 n3 sc3 : Nat) (vs1 vs2 vs3 : List Value) (w : World) (cs : Array Value) (hW : w.heap[wl]? = some (.cells cs 31 (0, 0))) (h2 : cs[2]? = some (.slice so1 n1 sc1)) (h3 : cs[3]? = some (.slice so2 n2 sc2)) (h4 : cs[4]? = some (.slice so3 n3 sc3)) (hrowS : w.ownsRow 0 61 1 (.slice so1 n1 sc1) n1 vs1) (hrowE : w.ownsRow 0 53 1 (.slice so2 n2 sc2) n2 vs2) (hrowW : w.ownsRow 0 68 1 (.slice so3 n3 sc3) n3 vs3) (hvS : ∀ k (h : k < vs1.length), SsAt w vs1[k] k) (hvE : ∀ k (h : k < vs2.length), SeAt w vs2[k] k) (hvW : ∀ k (h : k < vs3.length), SwAt w vs3[k] k) (hnS : n1 ≤ 140737488355328) (hnE : n2 ≤ 140737488355328) (hnW : n3 ≤ 140737488355328) :
    Calls Tryz.prog 9 #[ptrV wl] w fun e w' => e = .returned (.bool true) ∧ Below w.heap.size w w' := by
  have hwl := lt_of_block hW
  have c2 : w.cell? ⟨wl, 2, none⟩ = some (.slice so1 n1 sc1) := by rw [cell_of_row w wl 2 cs _ _ hW]; exact h2
  have HVLS : Hid (vs1.length = n1) := by show _ = _; have := hrowS.1; omega
  have HVS : Hid (∀ k (h : k < vs1.length), SsAt w vs1[k] k) := hvS
  have HRS : Hid (w.ownsRow 0 61 1 (.slice so1 n1 sc1) n1 vs1) := hrowS
  have c3 : w.cell? ⟨wl, 3, none⟩ = some (.slice so2 n2 sc2) := by rw [cell_of_row w wl 3 cs _ _ hW]; exact h3
  have HVLE : Hid (vs2.length = n2) := by show _ = _; have := hrowE.1; omega
  have HVE : Hid (∀ k (h : k < vs2.length), SeAt w vs2[k] k) := hvE
  have HRE : Hid (w.ownsRow 0 53 1 (.slice so2 n2 sc2) n2 vs2) := hrowE
  have c4 : w.cell? ⟨wl, 4, none⟩ = some (.slice so3 n3 sc3) := by rw [cell_of_row w wl 4 cs _ _ hW]; exact h4
  have HVLW : Hid (vs3.length = n3) := by show _ = _; have := hrowW.1; omega
  have HVW : Hid (∀ k (h : k < vs3.length), SwAt w vs3[k] k) := hvW
  have HRW : Hid (w.ownsRow 0 68 1 (.slice so3 n3 sc3) n3 vs3) := hrowW
  clear hW h2 h3 h4 hvS hvE hvW hrowS hrowE hrowW
  unfold ptrV
  go_enter Tryz.func9, Tryz.ntmps9
  go_wp2_with fail
  go_loopw [3] (fun x wr => ∃ i : Nat, x = .int .i64 i ∧ i ≤ n1 ∧ Below w.heap.size w wr) (fun x _ => n1 - (intOf x).toNat)
  case atStart => exact ⟨0, rfl, Nat.zero_le _, Below.refl _ _⟩
  case round =>
    obtain ⟨i, rfl, hin, hb0⟩ := hrel
    have hz := hb0.size
    have k2 := (hb0.cell (p := ⟨wl, 2, none⟩) hwl).trans c2
    by_cases hlt : i < n1
    · obtain ⟨sg, rfl, sgz, hcell⟩ := row_one' HRS.out (by omega)
      have hiv : i < vs1.length := by rw [HVLS.out]; exact hlt
      have e0 := hcell i hiv
      have hss := HVS.out i hiv
      clear hcell
      generalize vs1[i] = v at *
      have e0r := (hb0.cell (p := ⟨sg, i, none⟩) sgz).trans e0
      go_wp2_with fail
      refine (badStatus_any i _ (by omega)).mono ?_
      rintro e w1 ⟨rfl, hb1⟩
      have hb01 : Below w.heap.size w w1 := hb0.trans (hb1.mono hz)
      rcases hss with rfl | ⟨G, c, rfl, hc, hmk⟩
      · have k2w := (((hb01.alloc (by have := hb01.size; omega) (.cells #[.string (bdS i).1.tx, .int .i64 (bdS i).1.pe, .int .i64 (bdS i).1.ac, .int .i64 (bdS i).2] 59)).cell (p := ⟨wl, 2, none⟩) hwl)).trans c2
        have e0w := (((hb01.alloc (by have := hb01.size; omega) (.cells #[.string (bdS i).1.tx, .int .i64 (bdS i).1.pe, .int .i64 (bdS i).1.ac, .int .i64 (bdS i).2] 59)).cell (p := ⟨sg, i, none⟩) sgz)).trans e0
        go_wp2_with fail
        go_loopw [5] (fun x wr2 => x = .int .i64 0 ∧ wr2 = w1.alloc (.cells #[.string (bdS i).1.tx, .int .i64 (bdS i).1.pe, .int .i64 (bdS i).1.ac, .int .i64 (bdS i).2] 59)) (fun _ _ => 0)
        case atStart => exact ⟨rfl, rfl⟩
        case round =>
          obtain ⟨rfl, rfl⟩ := hrel
          go_wp2_with fail
          go_roundw
          case rel => exact ⟨i + 1, by go_num, by omega, hb01.alloc (by have := hb01.size; omega) _⟩
          case measure => simp [intOf]; omega
      · have hbd : ∀ p, p < c → w.rangeAt G (p * 4) (ttC (bdS i)) := by obtain ⟨cur, _, _, h⟩ := hmk; exact h
        generalize bdS i = bd at *
        have hGz : G < w.heap.size := by obtain ⟨cur, e, _⟩ := hmk; exact lt_of_block e
        have HBD : Hid (∀ p, p < c → w.rangeAt G (p * 4) (ttC bd)) := hbd
        clear hmk hbd
        have hz01 := hb01.size
        go_wp2_with fail
        go_loopw [5] (fun x wr2 => ∃ j : Nat, x = .int .i64 j ∧ j ≤ c ∧ Below (w1.alloc (.cells #[.string bd.1.tx, .int .i64 bd.1.pe, .int .i64 bd.1.ac, .int .i64 bd.2] 59)).heap.size (w1.alloc (.cells #[.string bd.1.tx, .int .i64 bd.1.pe, .int .i64 bd.1.ac, .int .i64 bd.2] 59)) wr2) (fun x _ => c - (intOf x).toNat)
        case atStart => exact ⟨0, rfl, Nat.zero_le _, Below.refl _ _⟩
        case round =>
          obtain ⟨j, rfl, hjc, hbS⟩ := hrel
          obtain ⟨s0, s1, s2, s3, sz⟩ := cellsW_S hbS
          have hbw := below_first hbS
          have hb02 : Below w.heap.size w wr := hb01.trans (hbw.mono hz01)
          have k2w := (hb02.cell (p := ⟨wl, 2, none⟩) hwl).trans c2
          have e0w := (hb02.cell (p := ⟨sg, i, none⟩) sgz).trans e0
          have hzS := hbS.size
          simp only [World.size_alloc] at hzS
          by_cases hjl : j < c
          · have hr := HBD.out j hjl
            have r0 := (hb02.cell (p := ⟨G, j * 4, none⟩) hGz).trans (hr 0 _ rfl)
            have r1 := (hb02.cell (p := ⟨G, j * 4 + 1, none⟩) hGz).trans (hr 1 _ rfl)
            have r2 := (hb02.cell (p := ⟨G, j * 4 + 2, none⟩) hGz).trans (hr 2 _ rfl)
            have r3 := (hb02.cell (p := ⟨G, j * 4 + 3, none⟩) hGz).trans (hr 3 _ rfl)
            clear hr
            go_wp2_with fail
            go_quiet (fail)
            go_wp2_with fail
            go_roundw
            case rel => exact ⟨j + 1, by go_num, by omega, below_drewN hbS _⟩
            case measure => simp [intOf]; omega
          · go_wp2_with fail
            go_roundw
            case rel => exact ⟨i + 1, by go_num, by omega, hb02⟩
            case measure => simp [intOf]; omega
    · obtain rfl : i = n1 := by omega
      have k3 := (hb0.cell (p := ⟨wl, 3, none⟩) hwl).trans c3
      go_wp2_with fail
      go_loopw [6] (fun x wr => ∃ i : Nat, x = .int .i64 i ∧ i ≤ n2 ∧ Below w.heap.size w wr) (fun x _ => n2 - (intOf x).toNat)
      case atStart => exact ⟨0, rfl, Nat.zero_le _, hb0⟩
      case round =>
        clear hin hb0 hz hlt k2
        obtain ⟨i, rfl, hin, hb0⟩ := hrel
        have hz := hb0.size
        have k3 := (hb0.cell (p := ⟨wl, 3, none⟩) hwl).trans c3
        by_cases hlt : i < n2
        · obtain ⟨sg, rfl, sgz, hcell⟩ := row_one' HRE.out (by omega)
          have hiv : i < vs2.length := by rw [HVLE.out]; exact hlt
          have e0 := hcell i hiv
          have hss := HVE.out i hiv
          clear hcell
          generalize vs2[i] = v at *
          have e0r := (hb0.cell (p := ⟨sg, i, none⟩) sgz).trans e0
          go_wp2_with fail
          refine (badEntry_any i _ (by omega)).mono ?_
          rintro e w1 ⟨rfl, hb1⟩
          have hb01 : Below w.heap.size w w1 := hb0.trans (hb1.mono hz)
          rcases hss with rfl | ⟨G, c, rfl, hc, hmk⟩
          · have k2w := (((hb01.alloc (by have := hb01.size; omega) (.cells #[.string (bdE i).bt, .int .i64 (bdE i).ac, .string (bdE i).tx] 63)).cell (p := ⟨wl, 3, none⟩) hwl)).trans c3
            have e0w := (((hb01.alloc (by have := hb01.size; omega) (.cells #[.string (bdE i).bt, .int .i64 (bdE i).ac, .string (bdE i).tx] 63)).cell (p := ⟨sg, i, none⟩) sgz)).trans e0
            go_wp2_with fail
            go_loopw [8] (fun x wr2 => x = .int .i64 0 ∧ wr2 = w1.alloc (.cells #[.string (bdE i).bt, .int .i64 (bdE i).ac, .string (bdE i).tx] 63)) (fun _ _ => 0)
            case atStart => exact ⟨rfl, rfl⟩
            case round =>
              obtain ⟨rfl, rfl⟩ := hrel
              go_wp2_with fail
              go_roundw
              case rel => exact ⟨i + 1, by go_num, by omega, hb01.alloc (by have := hb01.size; omega) _⟩
              case measure => simp [intOf]; omega
          · have hbd : ∀ p, p < c → w.rangeAt G (p * 3) (enC (bdE i)) := by obtain ⟨cur, _, _, h⟩ := hmk; exact h
            generalize bdE i = bd at *
            have hGz : G < w.heap.size := by obtain ⟨cur, e, _⟩ := hmk; exact lt_of_block e
            have HBD : Hid (∀ p, p < c → w.rangeAt G (p * 3) (enC bd)) := hbd
            clear hmk hbd
            have hz01 := hb01.size
            go_wp2_with fail
            go_loopw [8] (fun x wr2 => ∃ j : Nat, x = .int .i64 j ∧ j ≤ c ∧ Below (w1.alloc (.cells #[.string bd.bt, .int .i64 bd.ac, .string bd.tx] 63)).heap.size (w1.alloc (.cells #[.string bd.bt, .int .i64 bd.ac, .string bd.tx] 63)) wr2) (fun x _ => c - (intOf x).toNat)
            case atStart => exact ⟨0, rfl, Nat.zero_le _, Below.refl _ _⟩
            case round =>
              obtain ⟨j, rfl, hjc, hbS⟩ := hrel
              obtain ⟨s0, s1, s2, sz⟩ := cellsW_E hbS
              have hbw := below_first hbS
              have hb02 : Below w.heap.size w wr := hb01.trans (hbw.mono hz01)
              have k2w := (hb02.cell (p := ⟨wl, 3, none⟩) hwl).trans c3
              have e0w := (hb02.cell (p := ⟨sg, i, none⟩) sgz).trans e0
              have hzS := hbS.size
              simp only [World.size_alloc] at hzS
              by_cases hjl : j < c
              · have hr := HBD.out j hjl
                have r0 := (hb02.cell (p := ⟨G, j * 3, none⟩) hGz).trans (hr 0 _ rfl)
                have r1 := (hb02.cell (p := ⟨G, j * 3 + 1, none⟩) hGz).trans (hr 1 _ rfl)
                have r2 := (hb02.cell (p := ⟨G, j * 3 + 2, none⟩) hGz).trans (hr 2 _ rfl)
                clear hr
                go_wp2_with fail
                go_quiet (fail)
                go_wp2_with fail
                go_roundw
                case rel => exact ⟨j + 1, by go_num, by omega, below_drewN hbS _⟩
                case measure => simp [intOf]; omega
              · go_wp2_with fail
                go_roundw
                case rel => exact ⟨i + 1, by go_num, by omega, hb02⟩
                case measure => simp [intOf]; omega
        · obtain rfl : i = n2 := by omega
          have k4 := (hb0.cell (p := ⟨wl, 4, none⟩) hwl).trans c4
          go_wp2_with fail
          go_loopw [9] (fun x wr => ∃ i : Nat, x = .int .i64 i ∧ i ≤ n3 ∧ Below w.heap.size w wr) (fun x _ => n3 - (intOf x).toNat)
          case atStart => exact ⟨0, rfl, Nat.zero_le _, hb0⟩
          case round =>
            clear hin hb0 hz hlt k3
            obtain ⟨i, rfl, hin, hb0⟩ := hrel
            have hz := hb0.size
            have k4 := (hb0.cell (p := ⟨wl, 4, none⟩) hwl).trans c4
            by_cases hlt : i < n3
            · obtain ⟨sg, rfl, sgz, hcell⟩ := row_one' HRW.out (by omega)
              have hiv : i < vs3.length := by rw [HVLW.out]; exact hlt
              have e0 := hcell i hiv
              have hss := HVW.out i hiv
              clear hcell
              generalize vs3[i] = v at *
              have e0r := (hb0.cell (p := ⟨sg, i, none⟩) sgz).trans e0
              go_wp2_with fail
              refine (badWrite_any i _ (by omega)).mono ?_
              rintro e w1 ⟨rfl, hb1⟩
              have hb01 : Below w.heap.size w w1 := hb0.trans (hb1.mono hz)
              rcases hss with rfl | ⟨G, c, rfl, hc, hmk⟩
              · have k2w := (((hb01.alloc (by have := hb01.size; omega) (.cells #[.int .i64 (bdW i).kd, .int .i64 (bdW i).pl, .string (bdW i).en.bt, .int .i64 (bdW i).en.ac, .string (bdW i).en.tx] 66)).cell (p := ⟨wl, 4, none⟩) hwl)).trans c4
                have e0w := (((hb01.alloc (by have := hb01.size; omega) (.cells #[.int .i64 (bdW i).kd, .int .i64 (bdW i).pl, .string (bdW i).en.bt, .int .i64 (bdW i).en.ac, .string (bdW i).en.tx] 66)).cell (p := ⟨sg, i, none⟩) sgz)).trans e0
                go_wp2_with fail
                go_loopw [11] (fun x wr2 => x = .int .i64 0 ∧ wr2 = w1.alloc (.cells #[.int .i64 (bdW i).kd, .int .i64 (bdW i).pl, .string (bdW i).en.bt, .int .i64 (bdW i).en.ac, .string (bdW i).en.tx] 66)) (fun _ _ => 0)
                case atStart => exact ⟨rfl, rfl⟩
                case round =>
                  obtain ⟨rfl, rfl⟩ := hrel
                  go_wp2_with fail
                  go_roundw
                  case rel => exact ⟨i + 1, by go_num, by omega, hb01.alloc (by have := hb01.size; omega) _⟩
                  case measure => simp [intOf]; omega
              · have hbd : ∀ p, p < c → w.rangeAt G (p * 5) (wrC (bdW i)) := by obtain ⟨cur, _, _, h⟩ := hmk; exact h
                generalize bdW i = bd at *
                have hGz : G < w.heap.size := by obtain ⟨cur, e, _⟩ := hmk; exact lt_of_block e
                have HBD : Hid (∀ p, p < c → w.rangeAt G (p * 5) (wrC bd)) := hbd
                clear hmk hbd
                have hz01 := hb01.size
                go_wp2_with fail
                go_loopw [11] (fun x wr2 => ∃ j : Nat, x = .int .i64 j ∧ j ≤ c ∧ Below (w1.alloc (.cells #[.int .i64 bd.kd, .int .i64 bd.pl, .string bd.en.bt, .int .i64 bd.en.ac, .string bd.en.tx] 66)).heap.size (w1.alloc (.cells #[.int .i64 bd.kd, .int .i64 bd.pl, .string bd.en.bt, .int .i64 bd.en.ac, .string bd.en.tx] 66)) wr2) (fun x _ => c - (intOf x).toNat)
                case atStart => exact ⟨0, rfl, Nat.zero_le _, Below.refl _ _⟩
                case round =>
                  obtain ⟨j, rfl, hjc, hbS⟩ := hrel
                  obtain ⟨s0, s1, s2, s3, s4, sz⟩ := cellsW_W hbS
                  have hbw := below_first hbS
                  have hb02 : Below w.heap.size w wr := hb01.trans (hbw.mono hz01)
                  have k2w := (hb02.cell (p := ⟨wl, 4, none⟩) hwl).trans c4
                  have e0w := (hb02.cell (p := ⟨sg, i, none⟩) sgz).trans e0
                  have hzS := hbS.size
                  simp only [World.size_alloc] at hzS
                  by_cases hjl : j < c
                  · have hr := HBD.out j hjl
                    have r0 := (hb02.cell (p := ⟨G, j * 5, none⟩) hGz).trans (hr 0 _ rfl)
                    have r1 := (hb02.cell (p := ⟨G, j * 5 + 1, none⟩) hGz).trans (hr 1 _ rfl)
                    have r2 := (hb02.cell (p := ⟨G, j * 5 + 2, none⟩) hGz).trans (hr 2 _ rfl)
                    have r3 := (hb02.cell (p := ⟨G, j * 5 + 3, none⟩) hGz).trans (hr 3 _ rfl)
                    have r4 := (hb02.cell (p := ⟨G, j * 5 + 4, none⟩) hGz).trans (hr 4 _ rfl)
                    clear hr
                    go_wp2_with fail
                    go_quiet (fail)
                    go_wp2_with fail
                    go_roundw
                    case rel => exact ⟨j + 1, by go_num, by omega, below_drewN hbS _⟩
                    case measure => simp [intOf]; omega
                  · go_wp2_with fail
                    go_roundw
                    case rel => exact ⟨i + 1, by go_num, by omega, hb02⟩
                    case measure => simp [intOf]; omega
            · obtain rfl : i = n3 := by omega
              go_wp2_with fail
              go_ret
              exact ⟨rfl, hb0⟩
end Go.Proofs.YtgkiknfpcbcnnaaGreat
namespace Go.Proofs.YtgkiknfpcbcnnaaGreat
open Go.RowKit
set_option maxRecDepth 20000
structure EsOK (w : World) (lab l2 : Nat → Nat) (eo : Option Addr) (ec : Nat) (es : List Value) : Prop where
  row : w.ownsRow 0 53 1 (.slice eo es.length ec) es.length es
  rl : ∀ b, (Value.slice eo es.length ec).ownBlock = some b → lab b = 7 ∧ l2 b = 1
  at_ : ∀ k (h : k < es.length), SeAt w es[k] k ∧ ∀ b, es[k].ownBlock = some b → lab b = 7 ∧ l2 b = 3 + 3 * k
structure WssOK (w : World) (lab l2 : Nat → Nat) (wo : Option Addr) (wc : Nat) (ws : List Value) : Prop where
  row : w.ownsRow 0 68 1 (.slice wo ws.length wc) ws.length ws
  rl : ∀ b, (Value.slice wo ws.length wc).ownBlock = some b → lab b = 7 ∧ l2 b = 2
  at_ : ∀ k (h : k < ws.length), SwAt w ws[k] k ∧ ∀ b, ws[k].ownBlock = some b → lab b = 7 ∧ l2 b = 4 + 3 * k
def TbAt (w : World) (lab l2 : Nat → Nat) (i : Nat) (p : Pr) : Prop := ERow w 0 p.tv (tabS p.sy) ∧ ∀ b, p.tv.ownBlock = some b → lab b = 7 ∧ l2 b = 5 + 3 * i
def TbOK (w : World) (lab l2 : Nat → Nat) (ps : List Pr) : Prop := ∀ i (h : i < ps.length), TbAt w lab l2 i ps[i]
theorem EsOK.same {w w' : World} {lab l2 lab' l2' : Nat → Nat} {eo : Option Addr} {ec : Nat} {es : List Value} (h : EsOK w lab l2 eo ec es) (hl : ∀ b, b < w.heap.size → lab' b = lab b ∧ l2' b = l2 b) (hs : ∀ b, b < w.heap.size → lab b = 7 → (l2 b = 1 ∨ ∃ k, l2 b = 3 + 3 * k) → w'.heap[b]? = w.heap[b]?) : EsOK w' lab' l2' eo ec es := by
  refine ⟨ownsRow_same h.row (fun b hb => hs b (World.ownsRow.lt h.row b hb).2 (h.rl b hb).1 (.inl (h.rl b hb).2)), fun b hb => ?_, fun k hk => ?_⟩
  · obtain ⟨e1, e2⟩ := hl b (World.ownsRow.lt h.row b hb).2
    rw [e1, e2]; exact h.rl b hb
  · obtain ⟨h1, h2⟩ := h.at_ k hk
    refine ⟨h1.same (fun b hb => hs b (h1.lt b hb) (h2 b hb).1 (.inr ⟨k, (h2 b hb).2⟩)), fun b hb => ?_⟩
    obtain ⟨e1, e2⟩ := hl b (h1.lt b hb)
    rw [e1, e2]; exact h2 b hb
theorem WssOK.same {w w' : World} {lab l2 lab' l2' : Nat → Nat} {wo : Option Addr} {wc : Nat} {ws : List Value} (h : WssOK w lab l2 wo wc ws) (hl : ∀ b, b < w.heap.size → lab' b = lab b ∧ l2' b = l2 b) (hs : ∀ b, b < w.heap.size → lab b = 7 → (l2 b = 2 ∨ ∃ k, l2 b = 4 + 3 * k) → w'.heap[b]? = w.heap[b]?) : WssOK w' lab' l2' wo wc ws := by
  refine ⟨ownsRow_same h.row (fun b hb => hs b (World.ownsRow.lt h.row b hb).2 (h.rl b hb).1 (.inl (h.rl b hb).2)), fun b hb => ?_, fun k hk => ?_⟩
  · obtain ⟨e1, e2⟩ := hl b (World.ownsRow.lt h.row b hb).2
    rw [e1, e2]; exact h.rl b hb
  · obtain ⟨h1, h2⟩ := h.at_ k hk
    refine ⟨h1.same (fun b hb => hs b (h1.lt b hb) (h2 b hb).1 (.inr ⟨k, (h2 b hb).2⟩)), fun b hb => ?_⟩
    obtain ⟨e1, e2⟩ := hl b (h1.lt b hb)
    rw [e1, e2]; exact h2 b hb
theorem TbAt.same {w w' : World} {lab l2 lab' l2' : Nat → Nat} {i : Nat} {p : Pr} (h : TbAt w lab l2 i p) (hl : ∀ b, b < w.heap.size → lab' b = lab b ∧ l2' b = l2 b) (hs : ∀ b, b < w.heap.size → lab b = 7 → l2 b = 5 + 3 * i → w'.heap[b]? = w.heap[b]?) : TbAt w' lab' l2' i p := by
  obtain ⟨h1, h2⟩ := h
  refine ⟨h1.same (fun b hb => hs b (World.ownsRow.lt h1 b hb).2 (h2 b hb).1 (h2 b hb).2), fun b hb => ?_⟩
  obtain ⟨e1, e2⟩ := hl b (World.ownsRow.lt h1 b hb).2
  rw [e1, e2]; exact h2 b hb
structure LD (X : XBase) (w : World) (wl : Nat) (lab l2 : Nat → Nat) (ps : List Pr) (vals es ws : List Value) : Prop where
  ex : ∃ eo ec wo wc, LC X w wl lab true (.slice eo es.length ec) (.slice wo ws.length wc) ps vals ∧ EsOK w lab l2 eo ec es ∧ WssOK w lab l2 wo wc ws
  tb : TbOK w lab l2 ps
theorem LD.same {X : XBase} {w w' : World} {wl : Nat} {lab l2 : Nat → Nat} {ps : List Pr} {vals es ws : List Value} (h : LD X w wl lab l2 ps vals es ws) (hb : Below w.heap.size w w') : LD X w' wl lab l2 ps vals es ws := by
  obtain ⟨eo, ec, wo, wc, h1, h2, h3⟩ := h.ex
  exact ⟨⟨eo, ec, wo, wc, h1.same hb, h2.same (fun _ _ => ⟨rfl, rfl⟩) (fun b hk _ _ => hb.block b hk), h3.same (fun _ _ => ⟨rfl, rfl⟩) (fun b hk _ _ => hb.block b hk)⟩, fun i hi => (h.tb i hi).same (fun _ _ => ⟨rfl, rfl⟩) (fun b hk _ _ => hb.block b hk)⟩
theorem LD.read {X : XBase} {w : World} {wl : Nat} {lab l2 : Nat → Nat} {ps : List Pr} {vals es ws : List Value} (h : LD X w wl lab l2 ps vals es ws) : ∃ ga gc, w.cell? ⟨wl, 0, none⟩ = some (.slice ga ps.length gc) ∧ w.cell? ⟨wl, 1, none⟩ = some (.bool true) ∧ wl < w.heap.size ∧ ∀ i (hi : i < ps.length), ∃ g, ga = some ⟨g, 0, none⟩ ∧ g < w.heap.size ∧ w.cell? ⟨g, i, none⟩ = some (.pointer (some ⟨ps[i].pb, 0, none⟩)) := by
  obtain ⟨eo, ec, wo, wc, h1, h2, h3⟩ := h.ex
  exact h1.read
theorem LD.whole {X : XBase} {w : World} {wl : Nat} {lab l2 : Nat → Nat} {ps : List Pr} {vals es ws : List Value} (h : LD X w wl lab l2 ps vals es ws) (b1 : vals.length ≤ 140737488355328) (b2 : es.length ≤ 140737488355328) (b3 : ws.length ≤ 140737488355328) :
    Calls Tryz.prog 9 #[ptrV wl] w fun e w' => e = .returned (.bool true) ∧ Below w.heap.size w w' := by
  obtain ⟨eo, ec, wo, wc, h1, h2, h3⟩ := h.ex
  obtain ⟨ga, gc, so, sc, e1, e2, e3⟩ := h1.ex
  exact whole3_any wl so eo wo vals.length sc es.length ec ws.length wc vals es ws w _ e1 rfl rfl rfl e3.row h2.row h3.row (fun k hk => (e3.at_ k hk).1) (fun k hk => (h2.at_ k hk).1) (fun k hk => (h3.at_ k hk).1) b1 b2 b3
theorem LC.off {X : XBase} {w w' : World} {wl : Nat} {lab : Nat → Nat} {tb : Bool} {ev wv ev' wv' : Value} {ps : List Pr} {vals : List Value} (h : LC X w wl lab tb ev wv ps vals) (ho : Off (fun b => lab b = 7 ∨ b = wl) w w')
    (he : ∀ ga gc so sc, w.heap[wl]? = some (.cells #[.slice ga ps.length gc, .bool tb, .slice so vals.length sc, ev, wv] 31 (0, 0)) → w'.heap[wl]? = some (.cells #[.slice ga ps.length gc, .bool tb, .slice so vals.length sc, ev', wv'] 31 (0, 0))) : LC X w' wl lab tb ev' wv' ps vals := by
  obtain ⟨ga, gc, so, sc, h1, h2, h3⟩ := h.ex
  have l0 := h.l0
  refine ⟨⟨ga, gc, so, sc, he ga gc so sc h1, h2.same ho.size (fun _ _ => rfl) (fun b hb hk => ho.block b hb ?_), h3.same (fun _ _ => rfl) (fun b hb hk => ho.block b hb ?_)⟩, l0⟩
  · rintro (e | e)
    · rcases hk with hk | ⟨k, _, hk⟩ <;> omega
    · subst e
      rcases hk with hk | ⟨k, _, hk⟩ <;> omega
  · rintro (e | e)
    · rcases hk with hk | ⟨k, _, hk⟩ <;> omega
    · subst e
      rcases hk with hk | ⟨k, _, hk⟩ <;> omega
theorem LC.shown {X : XBase} {w w1 : World} {wl : Nat} {lab : Nat → Nat} {tb : Bool} {ev wv : Value} {ps : List Pr} {vals : List Value} {i : Nat} {F F' : Nat → Prop} {v : Value} (h : LC X w wl lab tb ev wv ps vals) (hi : i < ps.length) (f2 : ∀ b, F b → lab b = 5 + 5 * i) (i1 : X.Inv w1 ps[i].x ps[i].sx F') (k1 : ∀ b, F' b → F b ∨ w.heap.size ≤ b) (k2 : ∀ b, F' b → v.ownBlock ≠ some b) (o1 : Off F w w1) :
    ∃ lab', LC X w1 wl lab' tb ev wv ps vals ∧ (∀ b, b < w.heap.size → lab' b = lab b) ∧ ∀ b, w.heap.size ≤ b → (v.ownBlock = some b ∨ w1.heap.size ≤ b) → lab' b = 7 := by
  obtain ⟨ga, gc, so, sc, h1, h2, h3⟩ := h.ex
  obtain ⟨lab', hlab⟩ : ∃ lab' : Nat → Nat, lab' = fun b => if b < w.heap.size then lab b else if b < w1.heap.size ∧ v.ownBlock ≠ some b then 5 + 5 * i else 7 := ⟨_, rfl⟩
  have hl : ∀ b, b < w.heap.size → lab' b = lab b := fun b hb => by rw [hlab]; simp only [if_pos hb]
  have hl7 : ∀ b, w.heap.size ≤ b → (v.ownBlock = some b ∨ w1.heap.size ≤ b) → lab' b = 7 := fun b hb hv => by
    rw [hlab]
    simp only [if_neg (show ¬ b < w.heap.size by omega)]
    apply if_neg
    rintro ⟨q1, q2⟩
    rcases hv with hv | hv
    · exact q2 hv
    · omega
  have hl5 : ∀ b, F' b → lab' b = 5 + 5 * i := fun b hb => by
    by_cases hw : b < w.heap.size
    · rw [hl b hw]
      rcases k1 b hb with q | q
      · exact f2 b q
      · omega
    · rw [hlab]
      simp only [if_neg hw]
      exact if_pos ⟨X.lt i1 b hb, k2 b hb⟩
  clear hlab
  have hp := h2.pr i hi
  have hpb := lt_of_block hp.cell
  have hwl := lt_of_block h1
  obtain ⟨G, g1, g2⟩ := hp.gy
  have nF : ∀ b, lab b ≠ 5 + 5 * i → ¬ F b := fun b hb hf => hb (f2 b hf)
  have hn : PrOK X w1 lab' i ps[i] :=
    ⟨(o1.block _ hpb (nF _ (by have := hp.lb; omega))).trans hp.cell, (hl _ hpb).trans hp.lb, ⟨F', i1, hl5⟩,
      ⟨G, g1.same o1.size (fun b hb => o1.block b (g1.lt b hb) (nF b (by have := g2 b hb; omega))), fun b hb => (hl b (g1.lt b hb)).trans (g2 b hb)⟩, hp.sim⟩
  have ht := GtOK.turn hi h2 ps[i] rfl hn o1.size hl (fun b hb hk => o1.block b hb (nF b (by rcases hk with hk | ⟨k, hk, hk2⟩ <;> omega)))
  rw [List.set_getElem_self] at ht
  exact ⟨lab', ⟨⟨ga, gc, so, sc, (o1.block wl hwl (nF _ (by have := h.l0; omega))).trans h1, ht, h3.same hl (fun b hb hk => o1.block b hb (nF b (by rcases hk with hk | ⟨k, _, hk⟩ <;> omega)))⟩, (hl wl hwl).trans h.l0⟩, hl, hl7⟩
theorem LC.setT {X : XBase} {w : World} {wl : Nat} {lab : Nat → Nat} {tb : Bool} {ev wv : Value} {ps : List Pr} {vals : List Value} (h : LC X w wl lab tb ev wv ps vals) {i : Nat} (hi : i < ps.length) (tv : Value) :
    LC X (w.setCell ⟨ps[i].pb, 2, none⟩ tv) wl lab tb ev wv (ps.set i ⟨ps[i].pb, ps[i].x, ps[i].y, ps[i].sx, ps[i].sy, tv⟩) vals ∧ Off (fun b => b = ps[i].pb) w (w.setCell ⟨ps[i].pb, 2, none⟩ tv) := by
  obtain ⟨ga, gc, so, sc, h1, h2, h3⟩ := h.ex
  have hp := h2.pr i hi
  have ho : Off (fun b => b = ps[i].pb) w (w.setCell ⟨ps[i].pb, 2, none⟩ tv) := Off.setCell (F := fun b => b = ps[i].pb) (Off.refl _ _) (a := ⟨ps[i].pb, 2, none⟩) (.inl rfl) tv
  have hz := ho.size
  have hlb := hp.lb
  have nb : ∀ b, lab b ≠ 4 + 5 * i → (w.setCell ⟨ps[i].pb, 2, none⟩ tv).heap[b]? = w.heap[b]? := fun b hb => Below.heap_setCell _ _ _ _ (fun e => hb (by rw [e]; exact hlb))
  refine ⟨⟨⟨ga, gc, so, sc, ?_, ?_, ?_⟩, h.l0⟩, ho⟩
  · rw [List.length_set]; exact (nb wl (by have := h.l0; omega)).trans h1
  · refine GtOK.turn hi h2 _ rfl ?_ hz (fun _ _ => rfl) (fun b hb hk => nb b (by rcases hk with hk | ⟨k, hk, hk2⟩ <;> omega))
    obtain ⟨F, f1, f2⟩ := hp.gx
    obtain ⟨G, g1, g2⟩ := hp.gy
    exact ⟨heap_setCell_same w ps[i].pb 2 _ _ _ hp.cell, hlb, ⟨F, X.same f1 hz (fun b hb => nb b (by have := f2 b hb; omega)), f2⟩, ⟨G, g1.same hz (fun b hb => nb b (by have := g2 b hb; omega)), g2⟩, hp.sim⟩
  · exact h3.same (fun _ _ => rfl) (fun b hb hk => nb b (by rcases hk with hk | ⟨k, _, hk⟩ <;> omega))
theorem LC.turned7 {X : XBase} {w w1 w2 : World} {wl : Nat} {lab : Nat → Nat} {tb : Bool} {ev wv : Value} {ps : List Pr} {vals : List Value} {i : Nat} {F F' G : Nat → Prop} {sx sy : Gs} {v : Value}
    (h : LC X w wl lab tb ev wv ps vals) (hi : i < ps.length) (f2 : ∀ b, F b → lab b = 5 + 5 * i) (g1 : RGate w ps[i].y ps[i].sy G) (g2 : ∀ b, G b → lab b = 6 + 5 * i)
    (i1 : X.Inv w1 ps[i].x sx F') (k1 : ∀ b, F' b → F b ∨ w.heap.size ≤ b) (k2 : ∀ b, F' b → v.ownBlock ≠ some b) (hv : ∀ b, v.ownBlock = some b → w.heap.size ≤ b ∧ b < w1.heap.size) (o1 : Off F w w1) (r2 : RGate w2 ps[i].y sy (Fr G w1 w2)) (o2 : Off G w1 w2) (hs : Sim sx sy) :
    ∃ lab', LC X w2 wl lab' tb ev wv (ps.set i ⟨ps[i].pb, ps[i].x, ps[i].y, sx, sy, ps[i].tv⟩) vals ∧ (∀ b, b < w.heap.size → lab' b = lab b) ∧ (∀ b, w.heap.size ≤ b → (v.ownBlock = some b ∨ w2.heap.size ≤ b) → lab' b = 7) ∧ Off (fun b => lab b = 5 + 5 * i ∨ lab b = 6 + 5 * i) w w2 := by
  obtain ⟨ga, gc, so, sc, h1, h2, h3⟩ := h.ex
  have hz1 := o1.size
  have hz2 := o2.size
  have hwl := lt_of_block h1
  have HO : Off (fun b => lab b = 5 + 5 * i ∨ lab b = 6 + 5 * i) w w2 :=
    (o1.mono (fun b hb => .inl (f2 b hb))).trans o2 (fun b hb => .inl (.inr (g2 b hb)))
  have hp := h2.pr i hi
  have hpb := lt_of_block hp.cell
  obtain ⟨lab', hlab⟩ : ∃ lab' : Nat → Nat, lab' = fun b => if b < w.heap.size then lab b else if v.ownBlock = some b then 7 else if b < w1.heap.size then 5 + 5 * i else if b < w2.heap.size then 6 + 5 * i else 7 := ⟨_, rfl⟩
  have hl : ∀ b, b < w.heap.size → lab' b = lab b := fun b hb => by rw [hlab]; simp only [if_pos hb]
  have hl2 : ∀ b, ¬ b < w.heap.size → v.ownBlock ≠ some b → b < w1.heap.size → lab' b = 5 + 5 * i := fun b hb hn h1 => by rw [hlab]; simp only [if_neg hb, if_neg hn, if_pos h1]
  have hl3 : ∀ b, ¬ b < w1.heap.size → b < w2.heap.size → lab' b = 6 + 5 * i := fun b hb h1 => by
    rw [hlab]
    simp only [if_neg (show ¬ b < w.heap.size by omega), if_neg hb, if_pos h1]
    exact if_neg (fun e => by have := (hv b e).2; omega)
  have hl7 : ∀ b, w.heap.size ≤ b → (v.ownBlock = some b ∨ w2.heap.size ≤ b) → lab' b = 7 := fun b hb hq => by
    rw [hlab]
    simp only [if_neg (show ¬ b < w.heap.size by omega)]
    by_cases hn : v.ownBlock = some b
    · rw [if_pos hn]
    · rw [if_neg hn]
      rcases hq with hq | hq
      · exact absurd hq hn
      · rw [if_neg (show ¬ b < w1.heap.size by omega), if_neg (show ¬ b < w2.heap.size by omega)]
  clear hlab
  refine ⟨lab', ⟨⟨ga, gc, so, sc, ?_, ?_, ?_⟩, (hl wl hwl).trans h.l0⟩, hl, hl7, HO⟩
  · rw [List.length_set]; exact (HO.block wl hwl (by have := h.l0; omega)).trans h1
  · refine GtOK.turn hi h2 _ rfl ?_ (by omega) hl (fun b hb hk => HO.block b hb (by rcases hk with hk | ⟨k, hk, hk2⟩ <;> omega))
    refine ⟨(HO.block _ hpb (by have := hp.lb; omega)).trans hp.cell, (hl _ hpb).trans hp.lb, ⟨F', ?_, ?_⟩, ⟨Fr G w1 w2, r2, ?_⟩, hs⟩
    · refine X.same i1 (by omega) (fun b hb => ?_)
      have hb1 := X.lt i1 b hb
      refine o2.block b hb1 (fun hg => ?_)
      have e1 := g2 b hg
      have e2 := g1.lt b hg
      rcases k1 b hb with hf | hf
      · have := f2 b hf; omega
      · omega
    · intro b hb
      have hb1 := X.lt i1 b hb
      by_cases hbw : b < w.heap.size
      · rw [hl b hbw]
        rcases k1 b hb with hf | hf
        · exact f2 b hf
        · omega
      · exact hl2 b hbw (k2 b hb) hb1
    · intro b hb
      rcases hb with hb | hb
      · exact (hl b (g1.lt b hb)).trans (g2 b hb)
      · exact hl3 b (by omega) (by omega)
  · exact h3.same hl (fun b hb hk => HO.block b hb (by rcases hk with hk | ⟨k, hk, hk2⟩ <;> omega))
end Go.Proofs.YtgkiknfpcbcnnaaGreat
namespace Go.Proofs.YtgkiknfpcbcnnaaGreat
open Go.RowKit
set_option maxRecDepth 20000
theorem hid_calls {P : Program} {f : FuncId} {a : Array Value} {w : World} {Q : Ending → World → Prop} (h : Calls P f a w Q) : Hid (Calls P f a w Q) := h
set_option maxHeartbeats 800000 in
/-- Of two rows that hold the same entries. -/
theorem sameEntries_any (L : List En) (ao ao' : Option Addr) (c c' B B' : Nat) (w : World) (h1 : ERow w B (.slice ao L.length c) L) (h2 : ERow w B' (.slice ao' L.length c') L) (h128 : L.length ≤ 128) :
    Calls Tryz.prog 39 #[.slice ao L.length c, .slice ao' L.length c'] w fun e w' => e = .returned (.bool true) ∧ ∃ n, w' = w.drewN n := by
  go_enter Tryz.func39, Tryz.ntmps39
  go_wp2_with fail
  go_loopw [5] (fun x wr => ∃ j n : Nat, x = .int .i64 j ∧ j ≤ L.length ∧ wr = w.drewN n) (fun x _ => L.length - (intOf x).toNat)
  case atStart => exact ⟨0, 0, rfl, Nat.zero_le _, rfl⟩
  case round =>
    obtain ⟨j, n, rfl, hj, rfl⟩ := hrel
    by_cases hlt : j < L.length
    · obtain ⟨g, rfl, _, hc⟩ := h1.get (by omega)
      obtain ⟨g', rfl, _, hc'⟩ := h2.get (by omega)
      obtain ⟨a0, a1, a2⟩ := hc j hlt
      obtain ⟨b0, b1, b2⟩ := hc' j hlt
      clear hc hc' h1 h2
      generalize L[j] = x at *
      go_wp2_with fail
      go_quiet (fail)
      go_wp2_with fail
      go_roundw
      case rel => exact ⟨j + 1, _, by go_num, by omega, rfl⟩
      case measure => simp [intOf]; omega
    · clear h1 h2
      go_wp2_with fail
      go_ret
      exact ⟨rfl, n, rfl⟩
def DPost (X : XBase) (w : World) (wl : Nat) (lab l2 : Nat → Nat) (ps : List Pr) (vals es ws : List Value) (dp : Nat) (w' : World) : Prop :=
  ∃ lab' l2' ps' vals' es' ws', LD X w' wl lab' l2' ps' vals' es' ws' ∧ ps'.length ≤ ps.length + dp ∧ ps.length ≤ ps'.length ∧ vals'.length ≤ vals.length + 1 ∧ es'.length ≤ es.length + 1 ∧ ws'.length ≤ ws.length + 1 ∧ (∀ b, b < w.heap.size → lab' b = lab b ∧ l2' b = l2 b) ∧ Off (fun b => lab b ≠ 7 ∨ l2 b ≠ 0) w w'
theorem LD.shown {X : XBase} {w w1 w3 w4 : World} {wl : Nat} {lab l2 : Nat → Nat} {ps : List Pr} {vals es ws : List Value} {i : Nat} {eo wo eo' : Option Addr} {ec wc ec' : Nat} {F F' : Nat → Prop} {v v' : Value} {L : List En}
    (h1 : LC X w wl lab true (.slice eo es.length ec) (.slice wo ws.length wc) ps vals) (h2 : EsOK w lab l2 eo ec es) (h3 : WssOK w lab l2 wo wc ws) (ht : TbOK w lab l2 ps) (hi : i < ps.length)
    (f2 : ∀ b, F b → lab b = 5 + 5 * i) (t1 : ERow w1 w.heap.size v L) (i1 : X.Inv w1 ps[i].x ps[i].sx F') (k1 : ∀ b, F' b → F b ∨ w.heap.size ≤ b) (k2 : ∀ b, F' b → v.ownBlock ≠ some b) (o1 : Off F w w1) (b3 : Below w1.heap.size w1 w3)
    (s4 : SeAt w4 v' es.length) (v4 : ∀ b, v'.ownBlock = some b → v.ownBlock = some b) (e4 : ∀ cs, w3.heap[wl]? = some (.cells cs 31 (0, 0)) → w4.heap[wl]? = some (.cells (cs.setIfInBounds 3 (.slice eo' (es.length + 1) ec')) 31 (0, 0))) (r4 : w4.ownsRow 0 53 1 (.slice eo' (es.length + 1) ec') (es.length + 1) (es ++ [v'])) (n4 : ∀ b, (Value.slice eo' (es.length + 1) ec').ownBlock = some b → (Value.slice eo es.length ec).ownBlock = some b ∨ w3.heap.size ≤ b) (o4 : Off (fun b => b = wl ∨ v.ownBlock = some b ∨ (Value.slice eo es.length ec).ownBlock = some b) w3 w4) :
    DPost X w wl lab l2 ps vals es ws 0 w4 := by
  have hz1 := o1.size
  have hz3 := b3.size
  have hz4 := o4.size
  have l0 := h1.l0
  have hwl : wl < w.heap.size := by obtain ⟨_, _, _, _, e, _⟩ := h1.ex; exact lt_of_block e
  have hvb : ∀ b, v.ownBlock = some b → w.heap.size ≤ b ∧ b < w1.heap.size := fun b hb => World.ownsRow.lt t1 b hb
  have heb : ∀ b, (Value.slice eo es.length ec).ownBlock = some b → lab b = 7 ∧ l2 b = 1 ∧ b < w.heap.size := fun b hb => ⟨(h2.rl b hb).1, (h2.rl b hb).2, (World.ownsRow.lt h2.row b hb).2⟩
  obtain ⟨lab', hc, hl, hl7⟩ := LC.shown h1 hi f2 i1 k1 k2 o1
  have o3 : Off F w w3 := o1.then b3
  have HO : Off (fun b => lab b ≠ 7 ∨ l2 b ≠ 0) w w4 := by
    refine Off.trans (o3.mono (fun b hb => .inl (by have := f2 b hb; omega))) o4 (fun b hb => ?_)
    rcases hb with rfl | hb | hb
    · exact .inl (.inl (by omega))
    · exact .inr (hvb b hb).1
    · exact .inl (.inr (by have := heb b hb; omega))
  have keep : ∀ b, b < w.heap.size → lab b = 7 → l2 b ≠ 1 → w4.heap[b]? = w.heap[b]? := fun b hb h7 hn => by
    refine (o4.block b (by omega) ?_).trans (o3.block b hb (fun hf => by have := f2 b hf; omega))
    rintro (rfl | e | e)
    · omega
    · have := hvb b e; omega
    · have := heb b e; omega
  obtain ⟨m2, hm⟩ : ∃ m2 : Nat → Nat, m2 = fun b => if b < w.heap.size then l2 b else if v.ownBlock = some b then 3 + 3 * es.length else 1 := ⟨_, rfl⟩
  have hm0 : ∀ b, b < w.heap.size → m2 b = l2 b := fun b hb => by rw [hm]; simp only [if_pos hb]
  have hmv : ∀ b, v.ownBlock = some b → m2 b = 3 + 3 * es.length := fun b hb => by rw [hm]; simp only [if_neg (show ¬ b < w.heap.size by have := hvb b hb; omega), if_pos hb]
  have hmn : ∀ b, w1.heap.size ≤ b → m2 b = 1 := fun b hb => by rw [hm]; simp only [if_neg (show ¬ b < w.heap.size by omega)]; exact if_neg (fun e => by have := hvb b e; omega)
  clear hm
  have hll : ∀ b, b < w.heap.size → lab' b = lab b ∧ m2 b = l2 b := fun b hb => ⟨hl b hb, hm0 b hb⟩
  refine ⟨lab', m2, ps, vals, es ++ [v'], ws, ⟨⟨eo', ec', wo, wc, ?_, ⟨?_, ?_, ?_⟩, h3.same hll (fun b hb h7 hk => keep b hb h7 (by rcases hk with hk | ⟨k, hk⟩ <;> omega))⟩, fun k hk => (ht k hk).same hll (fun b hb h7 h5 => keep b hb h7 (by omega))⟩, Nat.le_refl _, Nat.le_refl _, Nat.le_succ _, by rw [List.length_append]; exact Nat.le_refl _, Nat.le_succ _, hll, HO⟩
  · rw [List.length_append]
    have hc3 := hc.same b3
    refine hc3.off (o4.mono (fun b hb => ?_)) (fun ga gc so sc e => e4 _ e)
    rcases hb with hb | hb | hb
    · exact .inr hb
    · exact .inl (hl7 b (hvb b hb).1 (.inl hb))
    · exact .inl (by have := heb b hb; rw [hl b this.2.2]; exact this.1)
  · rw [List.length_append]; exact r4
  · rw [List.length_append]
    intro b hb
    rcases n4 b hb with e | e
    · have := heb b e
      rw [hl b this.2.2, hm0 b this.2.2]
      exact ⟨this.1, this.2.1⟩
    · exact ⟨hl7 b (by omega) (.inr (by omega)), hmn b (by omega)⟩
  · intro k hk
    rw [List.length_append, List.length_singleton] at hk
    by_cases hkv : k < es.length
    · rw [List.getElem_append_left hkv]
      obtain ⟨u1, u2⟩ := h2.at_ k hkv
      refine ⟨u1.same (fun b hb => keep b (u1.lt b hb) (u2 b hb).1 (by have := (u2 b hb).2; omega)), fun b hb => ?_⟩
      rw [hl b (u1.lt b hb), hm0 b (u1.lt b hb)]
      exact u2 b hb
    · obtain rfl : k = es.length := by omega
      rw [List.getElem_append_right (by omega)]
      simp only [Nat.sub_self, List.getElem_cons_zero]
      exact ⟨s4, fun b hb => ⟨hl7 b (hvb b (v4 b hb)).1 (.inl (v4 b hb)), hmv b (v4 b hb)⟩⟩
set_option maxHeartbeats 1600000 in
theorem lawTabled_any (X : XGate) {w : World} {wl : Nat} {lab l2 : Nat → Nat} {ps : List Pr} {vals es ws : List Value} (h : LD X.toXBase w wl lab l2 ps vals es ws) (i : Nat) (hi : i < ps.length) (hk : (es.length + 1) * 24 ≤ 140737488355328) :
    Calls Tryz.prog 19 #[ptrV wl, ptrV ps[i].pb] w fun e w' => e = .returned (.bool true) ∧ DPost X.toXBase w wl lab l2 ps vals es ws 0 w' := by
  obtain ⟨eo, ec, wo, wc, h1, h2, h3⟩ := h.ex
  obtain ⟨ga, gc, so, sc, g1, g2, g3⟩ := h1.ex
  obtain ⟨p, hpe⟩ : ∃ p, p = ps[i] := ⟨_, rfl⟩
  have HPE : Hid (p = ps[i]) := hpe
  have hp : PrOK X.toXBase w lab i p := by rw [hpe]; exact g2.pr i hi
  have htb : TbAt w lab l2 i p := by rw [hpe]; exact h.tb i hi
  rw [← hpe]
  clear hpe
  obtain ⟨F, f1, f2⟩ := hp.gx
  have hwl := lt_of_block g1
  have hpb := lt_of_block hp.cell
  have htr := htb.1
  obtain ⟨to, tc, htv⟩ := ownsRow_shape htr
  rw [htv] at htr
  have c0 := cell_of_row w p.pb 0 _ _ _ hp.cell
  have c2 := cell_of_row w p.pb 2 _ _ _ hp.cell
  rw [htv] at c2
  have HTL : Hid (∀ b, (Value.slice to (tabS p.sy).length tc).ownBlock = some b → lab b = 7 ∧ l2 b = 5 + 3 * i) := by rw [← htv]; exact htb.2
  have HTR : Hid (ERow w 0 (.slice to (tabS p.sy).length tc) (tabS p.sy)) := htr
  have H1 : Hid (LC X.toXBase w wl lab true (.slice eo es.length ec) (.slice wo ws.length wc) ps vals) := h1
  have H2 : Hid (EsOK w lab l2 eo ec es) := h2
  have H3 : Hid (WssOK w lab l2 wo wc ws) := h3
  have H4 : Hid (TbOK w lab l2 ps) := h.tb
  have HW : Hid (w.heap[wl]? = some (.cells #[.slice ga ps.length gc, .bool true, .slice so vals.length sc, .slice eo es.length ec, .slice wo ws.length wc] 31 (0, 0))) := g1
  have HX : Hid (X.Inv w p.x p.sx F) := f1
  have HS : Hid (∀ b, F b → lab b = 5 + 5 * i) := f2
  have HE : Hid (tabS p.sx = tabS p.sy) := hp.sim.tabS (X.ok f1).tel
  have H128 : (tabS p.sy).length ≤ 128 := by rw [← HE.out]; exact tabS_len (X.ok f1)
  have hpF : ¬ F p.pb := fun e => by have := f2 _ e; have := hp.lb; omega
  have HI : Hid (i < ps.length) := hi
  clear h h1 h2 h3 hp f1 f2 g1 g2 g3 htb htr htv
  obtain ⟨L, hLe⟩ : ∃ L, L = tabS p.sy := ⟨_, rfl⟩
  rw [← hLe] at H128 HE HTL HTR c2
  clear hLe
  unfold ptrV at c0 c2 ⊢
  obtain ⟨K, hK⟩ : ∃ K : World → Prop, K = DPost X.toXBase w wl lab l2 ps vals es ws 0 := ⟨_, rfl⟩
  have HK : Hid (K = DPost X.toXBase w wl lab l2 ps vals es ws 0) := hK
  suffices hsuff : Calls Tryz.prog 19 #[.pointer (some ⟨wl, 0, none⟩), .pointer (some ⟨p.pb, 0, none⟩)] w fun e w' => e = .returned (.bool true) ∧ K w' by
    refine hsuff.mono ?_
    rintro e w' ⟨he, hkk⟩
    rw [hK] at hkk
    exact ⟨he, hkk⟩
  clear hK
  go_enter Tryz.func19, Tryz.ntmps19
  go_wp2_with fail
  refine (X.table HX.out).mono ?_
  rintro e w1 ⟨v, F', rfl, t1, i1, k1, k2, o1⟩
  rw [HE.out] at t1
  obtain ⟨ao, cap, rfl⟩ := ownsRow_shape t1
  have T1 : Hid (ERow w1 w.heap.size (.slice ao L.length cap) L) := t1
  have I1 : Hid (X.Inv w1 p.x p.sx F') := i1
  have K1 : Hid (∀ b, F' b → F b ∨ w.heap.size ≤ b) := k1
  have K2 : Hid (∀ b, F' b → (Value.slice ao L.length cap).ownBlock ≠ some b) := k2
  clear t1 i1 k1 k2
  have c2w := (o1.cell (a := ⟨p.pb, 2, none⟩) hpb hpF).trans c2
  clear c0 c2
  have HT1 : Hid (ERow w1 0 (.slice to L.length tc) L) := HTR.out.same (fun b hb => o1.block b (World.ownsRow.lt HTR.out b hb).2 (fun hf => by have := HS.out b hf; have := HTL.out b hb; omega))
  go_wp2_with fail
  refine (sameEntries_any L ao to cap tc _ _ w1 T1.out HT1.out H128).mono ?_
  rintro e w3 ⟨rfl, nd, hw3⟩
  have b3 : Below w1.heap.size w1 w3 := by subst hw3; exact below_drewN (Below.refl _ _) _
  have T3 : ERow w3 w.heap.size (.slice ao L.length cap) L := T1.out.below b3
  clear hw3 HT1 HTR HTL
  have hall : ∀ b, b < w.heap.size → ¬ F b → w3.heap[b]? = w.heap[b]? := fun b hb hn => (b3.block b (by have := o1.size; omega)).trans (o1.block b hb hn)
  have l0 := H1.out.l0
  have hW3 := (hall wl hwl (fun hf => by have := HS.out _ hf; omega)).trans HW.out
  have HW3 : Hid (w3.heap[wl]? = some (.cells #[.slice ga ps.length gc, .bool true, .slice so vals.length sc, .slice eo es.length ec, .slice wo ws.length wc] 31 (0, 0))) := hW3
  have row3 : w3.ownsRow 0 53 1 (.slice eo es.length ec) es.length es := ownsRow_same H2.out.row (fun b hb => hall b (World.ownsRow.lt H2.out.row b hb).2 (fun hf => by have := HS.out _ hf; have := H2.out.rl b hb; omega))
  have hks := keepEntries_any wl eo es.length ec es _ _ L w3 _ hW3 rfl row3 T3 (fun b hb e => by have := (World.ownsRow.lt T1.out b hb).1; omega) hk (fun b hb => ⟨fun e => by have := H2.out.rl b hb; subst e; omega, fun e => by have := (World.ownsRow.lt T1.out b e).1; have := (World.ownsRow.lt H2.out.row b hb).2; omega⟩)
  unfold ptrV at hks
  have HKS := hid_calls hks
  clear hks hW3 row3 T3 hall c2w
  go_wp2_with fail
  refine HKS.out.mono ?_
  rintro e w4 ⟨rfl, v', so', sc', s4, v4, e4, r4, n4, o4⟩
  have HF : Hid (K w4) := by
    show K w4
    rw [HK.out]
    have e := HPE.out
    have q2 := I1.out
    rw [e] at q2
    exact LD.shown H1.out H2.out H3.out H4.out HI.out HS.out T1.out q2 K1.out K2.out o1 b3 s4 v4 (fun cs hcs => by
      rw [HW3.out] at hcs
      simp only [Option.some.injEq, Obj.cells.injEq] at hcs
      rw [← hcs.1]
      exact e4) r4 n4 o4
  clear s4 v4 e4 r4 n4 o4 HKS
  go_wp2_with fail
  go_ret
  exact ⟨rfl, HF.out⟩
end Go.Proofs.YtgkiknfpcbcnnaaGreat
