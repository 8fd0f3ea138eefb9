/- Room. -/
import Derived.Test.YtoimmapdkapheaaAFind
namespace Go.Proofs.Ytoimmapdkapheaa
set_option maxRecDepth 4000
open Go.RowKit

theorem rm_drop {n f : Int} {L : List AAr} {k : Nat} (h : k < L.length) : rmA n f (L.drop k) = if n ≤ (L.getD k AAr.zero).a - f then f else rmA n (L.getD k AAr.zero).b (L.drop (k + 1)) := by
  rw [drop_cons L h]
  rfl
/-- What Room tells of a list that may be. -/
def rmV (z : Int) : Value := if z < 0 then .tuple #[.int .i64 0, .iface 48 (.int .i64 5)] else .tuple #[.int .i64 z, .nilIface]
theorem rmV_at {z : Int} (h : 0 ≤ z) : rmV z = .tuple #[.int .i64 z, .nilIface] := if_neg (by omega)
theorem mem_span {L : List AAr} (h : NrmA L) {k : Nat} (hk : k < L.length) : 0 ≤ (L.getD k AAr.zero).a ∧ (L.getD k AAr.zero).a < (L.getD k AAr.zero).b ∧ (L.getD k AAr.zero).b ≤ 4096 := by
  rw [List.getD_eq_getElem?_getD, List.getElem?_eq_getElem hk]
  exact nrm_span h (List.getElem_mem hk)
end Go.Proofs.Ytoimmapdkapheaa
