import Derived.Test.YtdepfhkhkocehabGae
namespace Go.Proofs.Ytdepfhkhkocehab
open Go.RowKit
set_option maxRecDepth 20000

end Go.Proofs.Ytdepfhkhkocehab
