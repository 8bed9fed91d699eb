import Derived.Test.YtgkiknfpcbcnnaaGreatGn
import Derived.Test.YtgkiknfpcbcnnaaGreatGq
import Derived.Test.YtgkiknfpcbcnnaaGreatGr
namespace Go.Proofs.YtgkiknfpcbcnnaaGreat
open Go.RowKit
set_option maxRecDepth 20000
def hbL (h : Hd) : List UInt8 := (binL h.ds.toNat 16 ++ binL h.sr.toNat 16) ++ binL h.pr.toNat 8 ++ binL h.po.toNat 16 ++ binL h.fl.toNat 8 ++ [if h.la then 49 else 48]
end Go.Proofs.YtgkiknfpcbcnnaaGreat
namespace Go.Proofs.YtgkiknfpcbcnnaaGreat
open Go.RowKit
set_option maxRecDepth 20000
end Go.Proofs.YtgkiknfpcbcnnaaGreat
namespace Go.Proofs.YtgkiknfpcbcnnaaGreat
open Go.RowKit
set_option maxRecDepth 20000
def hbB (n1 n2 n3 n4 n5 : Nat) (la : Bool) : ByteArray := bin n1 16 ++ bin n2 16 ++ bin n3 8 ++ bin n4 16 ++ bin n5 8 ++ (if la then ⟨#[49]⟩ else ⟨#[48]⟩)
theorem bl_hbB (n1 n2 n3 n4 n5 : Nat) (la : Bool) : bl (hbB n1 n2 n3 n4 n5 la) = hbL ⟨n1, n2, n3, n4, n5, la⟩ := by
  unfold hbB hbL
  simp only [bl_app, bl_bin, Int.toNat_natCast]
  cases la <;> rfl
end Go.Proofs.YtgkiknfpcbcnnaaGreat
namespace Go.Proofs.YtgkiknfpcbcnnaaGreat
open Go.RowKit
set_option maxRecDepth 20000
end Go.Proofs.YtgkiknfpcbcnnaaGreat
