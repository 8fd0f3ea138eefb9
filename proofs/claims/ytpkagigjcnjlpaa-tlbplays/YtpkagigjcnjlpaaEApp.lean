/- append, entries onto entries, as a step of a region that draws. -/
import Derived.Test.YtpkagigjcnjlpaaEMod2
import Derived.Deep.RegionHeld3
import Derived.Laws.OwnMore
namespace Go.Proofs.Ytpkagigjcnjlpaa
open Go.RowKit

theorem run_gen (w : World) (ty : TypeId) (base H c1 : Nat) (l1 l2 : List Ent) (hown : Own base w (.slice (some ⟨H, 0, none⟩) l1.length c1) l1) (ao : Option Addr) (m c : Nat) (hm : l2.length = m) (hnone : ao = none → m = 0 ∧ c = 0)
    (hc : ∀ ad, ao = some ad → ∀ j u, (ecs l2)[j]? = some u → w.cell? (ad.add j) = some u) (h64 : l1.length + m ≤ 1000) (hbase : base ≤ w.heap.size) :
    ∃ g c' w', (Builtin.append_ #[39, 39] ty #[.slice (some ⟨H, 0, none⟩) l1.length c1, .slice ao m c]).run Try.prog w = .ok (.slice (some ⟨g, 0, none⟩) (l1 ++ l2).length c') w' ∧ Own base w' (.slice (some ⟨g, 0, none⟩) (l1 ++ l2).length c') (l1 ++ l2) ∧ w.grownBy w' (some H) := by
  obtain ⟨i, hi, hz0, hz1, hz2⟩ := info_parts info_ent
  cases ao with
  | none =>
    obtain ⟨rfl, rfl⟩ := hnone rfl
    obtain rfl : l2 = [] := List.eq_nil_of_length_eq_zero hm
    rw [List.append_nil]
    exact ⟨H, c1, w, run_append_owned_none (P := Try.prog) w base 39 ty 26 i 6 Try.underlying39 hi _ _ _ hown, hown, World.grownBy.refl _ _⟩
  | some ad =>
    obtain ⟨v', w', hr, h2, h3, h4⟩ := run_append_own (P := Try.prog) w base 39 ty 26 i (.agg #[.int .i64 0, .int .i64 0, .int .i64 0, .int .i64 0, .bool false, .bool false]) 6 40 Try.underlying39 hi hz0 hz1 hz2 rfl (by decide) _ _ _ hown ad m c (ecs l2) (by rw [ecs_len, hm]) (hc ad rfl) (ecs_one l2) (by simp [maxLen]; omega) (by omega) hbase
    rw [← ecs_append] at h2
    rw [← hm, ← List.length_append] at h2
    rcases h2.2 with ⟨e, _⟩ | ⟨g, cap, cur, rfl, _⟩
    · have := h4.1 e
      simp at this
    · exact ⟨g, cap, w', hr, h2, h3⟩
theorem step_gen {ops : Array Oper} {o : Oper} {a : Act} {w : World} {K : Act → World → Prop} {Q : Exit → Act → World → Prop} {E : Prop} (hgd : o.guard = none) (s x : Operand)
    (ho : o.op = .call { callee := .builtin .append, args := #[s, x], argTypes := #[39, 39] })
    (base H c1 : Nat) (l1 l2 : List Ent) (hs : a.eval s = .slice (some ⟨H, 0, none⟩) l1.length c1) (hown : Own base w (.slice (some ⟨H, 0, none⟩) l1.length c1) l1) (ao : Option Addr) (m c : Nat) (hx : a.eval x = .slice ao m c) (hm : l2.length = m) (hnone : ao = none → m = 0 ∧ c = 0)
    (hc : ∀ ad, ao = some ad → ∀ j u, (ecs l2)[j]? = some u → w.cell? (ad.add j) = some u) (h64 : l1.length + m ≤ 1000) (hbase : base ≤ w.heap.size)
    (h : ∀ g c' w', Own base w' (.slice (some ⟨g, 0, none⟩) (l1 ++ l2).length c') (l1 ++ l2) → w.grownBy w' (some H) → K (a.put o.dst (.slice (some ⟨g, 0, none⟩) (l1 ++ l2).length c')) w') :
    if Region.wanted o (yielded ops a.tmps) = true then Oper.wp Try.prog o a w K Q else E := by
  have hw : Region.wanted o (yielded ops a.tmps) = true := by simp [Region.wanted, hgd]
  rw [if_pos hw]
  obtain ⟨g, c', w', hr, h2, h3⟩ := run_gen w o.type base H c1 l1 l2 hown ao m c hm hnone hc h64 hbase
  unfold Oper.wp execOp
  simp only [ho, resolve, invoke, builtin, Sem.run_bind, Sem.run_pure, Result.andThen_ok, List.map_toArray, List.map_cons, List.map_nil, hs, hx, hr]
  exact h g c' w' h2 h3
end Go.Proofs.Ytpkagigjcnjlpaa
