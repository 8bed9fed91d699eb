import Derived.Test.YtgkiknfpcbcnnabGreatGr
namespace Go.Proofs.YtgkiknfpcbcnnabGreat
open Go.RowKit
set_option maxRecDepth 20000

theorem conv_at (u : World) (x : Int) (k : Nat) (hk : u.heap.size = k) (h0 : 0 ≤ x) (h1 : x ≤ 255) :
    (convert 173 9 (.slice (some ⟨k, 0, none⟩) 1 1)).run Tryz.prog (u.alloc (.cells #[.int .u8 x] 5)) = .ok (.string (ch x)) (u.alloc (.cells #[.int .u8 x] 5)) := by
  subst hk; exact conv_one u x h0 h1

theorem pfx_size (v l : Nat) (h : l ≤ 16) : ((bin v 16).extract 0 l).size = l := by
  have := bin_size v 16
  rw [ByteArray.size_extract]
  omega

theorem key_pref (k : Int) (b l : Nat) (acc : ByteArray) (hk : hasP k = true) (hl : l ≤ 16) (ts : List Tm) : bl (acc ++ ch k ++ (bin b 16).extract 0 l ++ ⟨#[50]⟩) = bl acc ++ keyL ⟨k, b, l, ts⟩ := by
  have e : bl ((bin b 16).extract 0 l) = binL (b / 2 ^ (16 - l)) l := bl_pfx b l hl
  rw [bl_app, bl_app, bl_app, bl_ch, e]
  unfold keyL
  simp only [hk, if_true, prefKey, Int.toNat_natCast]
  simp [bl]

end Go.Proofs.YtgkiknfpcbcnnabGreat
