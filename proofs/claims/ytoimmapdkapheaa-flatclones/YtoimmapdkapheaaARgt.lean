/- Whether what is told is right. -/
import Derived.Test.YtoimmapdkapheaaATo
namespace Go.Proofs.Ytoimmapdkapheaa
set_option maxRecDepth 4000
open Go.RowKit

end Go.Proofs.Ytoimmapdkapheaa
