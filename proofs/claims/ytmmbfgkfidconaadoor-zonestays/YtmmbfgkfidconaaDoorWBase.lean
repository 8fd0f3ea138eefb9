/- What a law needs of the library's one table: that it lies as the program's text lays it. -/
import Derived.Test.YtmmbfgkfidconaaDoorTie
import Derived.Test.YtmmbfgkfidconaaDoorCards
import Derived.Test.YtmmbfgkfidconaaDoorJA
import Derived.ProofKit
import Derived.LaidMore
import Derived.OpenShut
import Derived.Stop.Joined
import Derived.SevenTiedAt
import Derived.ChangeOld
import Derived.Lib.LaidTab
namespace Go.Proofs.YtmmbfgkfidconaaDoor
open Go.ChangeShapes Go.WideShapes Go.ChangeAt Go.RowKit

theorem own : ownKnob Tryd.prog.godebug = none := by kernel_rfl
theorem gTab : Tryd.prog.globalNamed "math/bits.deBruijn64tab" = some 0 := by kernel_rfl
theorem tTab : (Tryd.prog.globals[0]?).map (·.type) = some 101 := by kernel_rfl
theorem laid_eq : Rows.laid_math_bits_deBruijn64tab = (Lib.tabData .u8 (Lib.deBruijn64tab.map Int.ofNat) : DataW Unit) := by kernel_rfl

theorem of_laid {W : World} (h : laidMetH Tryd.prog [("math/bits.deBruijn64tab", Rows.laid_math_bits_deBruijn64tab)] W) : Tab W := by
  rw [MakeChecks.laidMetH_plain _ _ _ (by kernel_rfl), laid_eq] at h
  have hT := Lib.tabIs_of_head gTab tTab Tryd.underlying101 Tryd.underlying5 (by kernel_rfl) (by kernel_rfl) h
  intro j hj
  have hl : (Lib.deBruijn64tab.map Int.ofNat).length = 64 := by decide
  rw [hT.cell gTab j (by omega)]
  simp only [List.getD, List.getElem?_map]
  cases Lib.deBruijn64tab[j]? <;> rfl
end Go.Proofs.YtmmbfgkfidconaaDoor
