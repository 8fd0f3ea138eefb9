/- A list that is only read, appended to a row; what is told, however it is told. -/
import Derived.Test.YtaeodbeodacmaaaARgb
namespace Go.Proofs.Ytaeodbeodacmaaa
open Go.RowKit

theorem run_appS (w : World) (ty : TypeId) (B : Nat) (v : Value) (l1 l2 : List AAr) (h : Row rAAr B w v l1) (ao : Option Addr) (c : Nat) (hs : Sn rAAr w ao l2) (hm : l1.length + l2.length ≤ 100000) (hB : B ≤ w.heap.size) :
    ∃ v' w', (Builtin.append_ #[22, 22] ty #[v, .slice ao l2.length c]).run Try.prog w = .ok v' w' ∧ Row rAAr B w' v' (l1 ++ l2) ∧ w.grownBy w' v.ownBlock := by
  by_cases e : l2 = []
  · subst e
    rw [List.append_nil]
    obtain ⟨i, z, hi, hz0, hz1, hz2, hzs⟩ := AAr.kin.inf
    cases ao with
    | none =>
      refine ⟨v, w, ?_, h, World.grownBy.refl _ _⟩
      rcases h.2 with ⟨rfl, h0⟩ | ⟨g, cap, cur, rfl, _, _, hnc, _⟩
      · simp [Builtin.append_, run_underlying AAr.kin.und, sizeOf, typeInfo, hi, Builtin.lenOf, Builtin.firstCells]
      · simp [Builtin.append_, run_underlying AAr.kin.und, sizeOf, typeInfo, hi, Builtin.lenOf, Builtin.firstCells, hnc, storeCells]
    | some ad =>
      obtain ⟨v', w', hr, h2, h3, h4⟩ := run_append_own (P := Try.prog) w B 22 ty rAAr.t i z rAAr.n rAAr.bytes AAr.kin.und hi hz0 hz1 hz2 hzs rAAr.npos v l1.length (rAAr.all l1) h ad 0 c [] (by simp) (by simp) (by simp) (by unfold maxLen; omega) (by show (l1.length + 0) * 24 ≤ _; omega) hB
      simp only [Nat.add_zero, List.append_nil] at h2
      exact ⟨v', w', hr, h2, h3⟩
  · exact run_app AAr.kin w ty B v l1 l2 h ao c (hs.seen e c) (by unfold maxLen; omega) (by show _ * 24 ≤ _; omega) hB
theorem list_appS {ops : Array Oper} {rest : List Oper} {o : Oper} {a : Act} {w : World} {Q : Exit → Act → World → Prop} (hg : o.guard = none) (x y : Operand) (ho : o.op = .call { callee := .builtin .append, args := #[x, y], argTypes := #[22, 22] })
    (B : Nat) (v : Value) (l1 l2 : List AAr) (hv : a.eval x = v) (h : Row rAAr B w v l1) (ao : Option Addr) (n c : Nat) (hy : a.eval y = .slice ao n c) (hn : n = l2.length) (hs : Sn rAAr w ao l2) (hm : l1.length + l2.length ≤ 100000) (hB : B ≤ w.heap.size)
    (hK : ∀ v' w', Row rAAr B w' v' (l1 ++ l2) → w.grownBy w' v.ownBlock → wpList Try.prog ops Q rest (a.put o.dst v') w') : wpList Try.prog ops Q (o :: rest) a w :=
  wpList_plain hg fun _ hK' => by
    subst hn
    obtain ⟨v', w', hr, h2, h3⟩ := run_appS w o.type B v l1 l2 h ao c hs hm hB
    unfold Oper.wp execOp
    simp only [ho, resolve, invoke, builtin, Sem.run_bind, Sem.run_pure, Result.andThen_ok, List.map_toArray, List.map_cons, List.map_nil, hv, hy, hr]
    exact hK' _ _ (hK v' w' h2 h3)
/-- What is told: the list, the error. -/
def lR (r : Except Int (List AAr)) : List AAr := match r with | .ok M => M | .error _ => []
def uR (r : Except Int (List AAr)) : Value := match r with | .ok _ => .nilIface | .error n => .iface 28 (.int .i64 n)
def oR (r : Except Int (List AAr)) : Bool := match r with | .ok _ => true | .error _ => false
theorem TellW.any {w w' : World} {r : Except Int (List AAr)} {e : Ending} (h : TellW w r e w') : ∃ ao c, e = .returned (.tuple #[.slice ao (lR r).length c, uR r]) ∧ Hid (Row rAAr w.heap.size w' (.slice ao (lR r).length c) (lR r)) ∧ Hid (Below w.heap.size w w') := by
  cases r with
  | ok M => exact h
  | error n => exact ⟨none, 0, h.1, Row.nil _ _ _, h.2⟩
theorem eql_uR (r : Except Int (List AAr)) (w : World) : (binOp .eql 25 (uR r) .nilIface).run Try.prog w = .ok (.bool (oR r)) w := by
  cases r with
  | ok M => simp [uR, oR, go_sem, Try.underlying25]
  | error n => simp [uR, oR, go_sem, Try.underlying25]
end Go.Proofs.Ytaeodbeodacmaaa
