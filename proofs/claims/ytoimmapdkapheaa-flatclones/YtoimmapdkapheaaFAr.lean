/- Lists of areas as rows. -/
import Derived.Test.YtoimmapdkapheaaATell
namespace Go.Proofs.Ytoimmapdkapheaa
set_option maxRecDepth 4000
open Go.RowKit
theorem rAAr.kin : Kin Try.prog rAAr 51 := AAr.kin
end Go.Proofs.Ytoimmapdkapheaa
