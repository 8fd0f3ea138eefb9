/- The document's pages of a list. -/
import Derived.Test.YtoimmapdkapheaaARef
import Derived.Test.YtoimmapdkapheaaZMake
namespace Go.Proofs.Ytoimmapdkapheaa
set_option maxRecDepth 4000
open Go.RowKit

theorem rAPg.zone : ∀ i z, Try.prog.info? rAPg.t = some i → i.zero = some z → z.cells = (rAPg.cells rAPg.zero).toArray := by
  intro i z hi hz
  have h : (Try.prog.info? 72).map (fun i => i.zero) = some (some (.agg #[.bool false, .bool false, .bool false, .bool false])) := by kernel_rfl
  rw [show Try.prog.info? 72 = some i from hi, Option.map_some, hz] at h
  simp at h
  subst h
  rfl
theorem APg.kin' : Kin Try.prog rAPg 56 := APg.kin

end Go.Proofs.Ytoimmapdkapheaa
