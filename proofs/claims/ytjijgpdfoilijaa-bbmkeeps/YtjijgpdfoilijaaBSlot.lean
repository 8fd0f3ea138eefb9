/- Places as keys of a map; the map of open places. -/
import Derived.Test.YtjijgpdfoilijaaZMap
import Derived.Test.YtjijgpdfoilijaaZ
namespace Go.Proofs.Ytjijgpdfoilijaa
open Go.RowKit

def slotV (s : Int × Int) : Value := .agg #[.int .i64 s.1, .int .i64 s.2]
def slotOk (s : Int × Int) : Prop := (-9223372036854775808 ≤ s.1 ∧ s.1 ≤ 9223372036854775807) ∧ -9223372036854775808 ≤ s.2 ∧ s.2 ≤ 9223372036854775807
theorem laidOutA : laidOutB Try.prog = true := by kernel_rfl
theorem slotRow : (53 : TypeId) < Try.prog.types.size := of_decide_eq_true (by kernel_rfl)
theorem slotWide : (match Try.prog.underlying 53 with | some (.array _ _) | some (.struct _) => true | _ => false) = true := by rw [Try.underlying53]
theorem slotLaw : WideMaps.KeyLaw Try.prog 53 := deep_law_laid laidOutA (m := 2) (by omega) slotRow (by kernel_rfl) slotWide
theorem slotKT : Try.prog.keyType 53 = true := by kernel_rfl
theorem slotCells : Try.prog.cellsOf 53 = 2 := by kernel_rfl
theorem slot_inj {a b : Int × Int} (h : slotV a = slotV b) : a = b := by
  obtain ⟨a1, a2⟩ := a
  obtain ⟨b1, b2⟩ := b
  simp [slotV] at h
  simp [h]
theorem slot_reads {a : Int × Int} (h : slotOk a) : ∃ l, keyOf Try.prog 53 (slotV a) = some l := by
  obtain ⟨a1, a2⟩ := a
  obtain ⟨⟨h1, h2⟩, h3, h4⟩ := h
  simp only at h1 h2 h3 h4
  have w1 : (Lit.int .i64 a1).wf = true := WalkArith.wf_i64 (by omega)
  have w2 : (Lit.int .i64 a2).wf = true := WalkArith.wf_i64 (by omega)
  obtain ⟨n, hn⟩ : ∃ n, Try.prog.types.size = n + 1 := ⟨_, (Nat.succ_pred_eq_of_pos (Nat.lt_of_le_of_lt (Nat.zero_le _) slotRow)).symm⟩
  have hc3 : Try.prog.cellsOf 3 = 1 := by kernel_rfl
  unfold keyOf
  rw [Try.underlying53, hn]
  simp [slotKT, slotV, Value.formed, Try.underlying53, slotCells, Program.keyLits, Value.cells, Try.underlying3, hc3, w1, w2]
end Go.Proofs.Ytjijgpdfoilijaa
