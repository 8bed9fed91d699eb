import Derived.Test.YtgkiknfpcbcnnaaGreatSba
import Derived.Deep.RegionHeld3
import Derived.Deep.Cut
import Derived.Test.YtgkiknfpcbcnnaaGreatSbb
import Derived.Deep.MidRow
namespace Go.Proofs.YtgkiknfpcbcnnaaGreat
open Go.RowKit
set_option maxRecDepth 20000
end Go.Proofs.YtgkiknfpcbcnnaaGreat
namespace Go.Proofs.YtgkiknfpcbcnnaaGreat
open Go.RowKit
set_option maxRecDepth 20000
end Go.Proofs.YtgkiknfpcbcnnaaGreat
