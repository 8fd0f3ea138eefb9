/- The document's May. -/
import Derived.Test.YtoimmapdkapheaaAChk
namespace Go.Proofs.Ytoimmapdkapheaa
set_option maxRecDepth 4000
open Go.RowKit

end Go.Proofs.Ytoimmapdkapheaa
