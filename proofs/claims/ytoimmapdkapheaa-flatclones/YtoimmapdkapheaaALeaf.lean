/- Areas as values, lists of them that are read; the small functions of layer 9. -/
import Derived.Test.YtoimmapdkapheaaAMath2
import Derived.Test.YtoimmapdkapheaaAPg
import Derived.Laws.StructEq
import Derived.Deep.CutRange
namespace Go.Proofs.Ytoimmapdkapheaa
set_option maxRecDepth 4000
open Go.RowKit

theorem below_drewN {B : Nat} {a w : World} (h : Below B a w) (n : Nat) : Below B a (w.drewN n) := ⟨h.os, h.tape, h.output, h.size, h.block⟩
def av (d : AAr) : Value := .agg #[.int .i64 d.a, .int .i64 d.b, .bool d.w, .bool d.x, .bool d.h]
def rv (w x : Bool) : Value := .agg #[.bool w, .bool x]
def pv (d : APg) : Value := .agg #[.bool d.is, .bool d.w, .bool d.x, .bool d.h]

def eqA (c d : AAr) : Bool := decide (c.a = d.a) && (decide (c.b = d.b) && ((c.w == d.w && c.x == d.x) && c.h == d.h))
theorem eqA_iff (c d : AAr) : eqA c d = true ↔ c = d := by
  obtain ⟨a1, a2, a3, a4, a5⟩ := c
  obtain ⟨b1, b2, b3, b4, b5⟩ := d
  simp [eqA, and_assoc]
theorem eqA_self (c : AAr) : eqA c c = true := (eqA_iff c c).2 rfl
def eqP (c d : APg) : Bool := c.is == d.is && (c.w == d.w && (c.x == d.x && c.h == d.h))
theorem eqP_iff (c d : APg) : eqP c d = true ↔ c = d := by
  obtain ⟨a1, a2, a3, a4⟩ := c
  obtain ⟨b1, b2, b3, b4⟩ := d
  simp [eqP]

theorem rt_run (n : Nat) (a b c d : Bool) (w : World) : (Op.equalIn (n + 3) 31 (rv a b) (rv c d)).run Try.prog w = .ok (a == c && b == d) w := by
  have hb : ∀ (n : Nat) (x y : Bool) (w : World), (Op.equalIn (n + 1) 4 (.bool x) (.bool y)).run Try.prog w = .ok (x == y) w := fun n x y w => run_equalIn_bool' w n 4 x y Try.underlying4
  unfold rv
  rw [run_equalIn_agg w (n + 2) _ _ _ (by kernel_rfl) (by kernel_rfl)]
  simp [go_sem, Program.fieldsOf, Try.underlying31, Op.eqFields, hb]
  cases a <;> cases b <;> cases c <;> cases d <;> rfl
theorem eql_rt (a b c d : Bool) (w : World) : (binOp .eql 31 (.agg #[.bool a, .bool b]) (.agg #[.bool c, .bool d])).run Try.prog w = .ok (.bool (a == c && b == d)) w := by
  have := rt_run 9997 a b c d w
  unfold rv at this
  rw [run_eql_struct, this]
  rfl
theorem neq_rt (a b c d : Bool) (w : World) : (binOp .neq 31 (.agg #[.bool a, .bool b]) (.agg #[.bool c, .bool d])).run Try.prog w = .ok (.bool (!(a == c && b == d))) w := by
  have := rt_run 9997 a b c d w
  unfold rv at this
  rw [run_neq_struct, this]
  rfl
theorem eqA_run (a b : AAr) (w : World) : (Op.equalIn 10000 55 (av a) (av b)).run Try.prog w = .ok (eqA a b) w := by
  have hi : ∀ (n : Nat) (x y : Int) (w : World), (Op.equalIn (n + 1) 3 (.int .i64 x) (.int .i64 y)).run Try.prog w = .ok (x == y) w := fun n x y w => run_equalIn_int w n 3 .i64 .i64 x y Try.underlying3
  have hb : ∀ (n : Nat) (x y : Bool) (w : World), (Op.equalIn (n + 1) 4 (.bool x) (.bool y)).run Try.prog w = .ok (x == y) w := fun n x y w => run_equalIn_bool' w n 4 x y Try.underlying4
  have hr : ∀ (n : Nat) (a b c d : Bool) (w : World), (Op.equalIn (n + 3) 31 (.agg #[.bool a, .bool b]) (.agg #[.bool c, .bool d])).run Try.prog w = .ok (a == c && b == d) w := fun n a b c d w => rt_run n a b c d w
  unfold av
  rw [run_equalIn_agg w 9999 _ _ _ (by kernel_rfl) (by kernel_rfl)]
  obtain ⟨a1, a2, a3, a4, a5⟩ := a
  obtain ⟨b1, b2, b3, b4, b5⟩ := b
  unfold eqA
  simp only
  simp [go_sem, Program.fieldsOf, Try.underlying55, Op.eqFields, hi, hb, hr]
  by_cases h1 : a1 = b1 <;> by_cases h2 : a2 = b2 <;> simp [h1, h2]
  cases a3 <;> cases a4 <;> cases a5 <;> cases b3 <;> cases b4 <;> cases b5 <;> rfl
theorem eql_ar (a b : AAr) (w : World) : (binOp .eql 55 (av a) (av b)).run Try.prog w = .ok (.bool (eqA a b)) w := by
  have := eqA_run a b w
  unfold av at *
  rw [run_eql_struct, this]
  rfl
theorem neq_ar (a b : AAr) (w : World) : (binOp .neq 55 (av a) (av b)).run Try.prog w = .ok (.bool (!eqA a b)) w := by
  have := eqA_run a b w
  unfold av at *
  rw [run_neq_struct, this]
  rfl
theorem eqP_run (a b : APg) (w : World) : (Op.equalIn 10000 72 (pv a) (pv b)).run Try.prog w = .ok (eqP a b) w := by
  have hb : ∀ (n : Nat) (x y : Bool) (w : World), (Op.equalIn (n + 1) 4 (.bool x) (.bool y)).run Try.prog w = .ok (x == y) w := fun n x y w => run_equalIn_bool' w n 4 x y Try.underlying4
  unfold pv
  rw [run_equalIn_agg w 9999 _ _ _ (by kernel_rfl) (by kernel_rfl)]
  obtain ⟨a1, a2, a3, a4⟩ := a
  obtain ⟨b1, b2, b3, b4⟩ := b
  unfold eqP
  simp only
  simp [go_sem, Program.fieldsOf, Try.underlying72, Op.eqFields, hb]
  cases a1 <;> cases a2 <;> cases a3 <;> cases a4 <;> cases b1 <;> cases b2 <;> cases b3 <;> cases b4 <;> rfl
theorem eql_pg (a b : APg) (w : World) : (binOp .eql 72 (pv a) (pv b)).run Try.prog w = .ok (.bool (eqP a b)) w := by
  have := eqP_run a b w
  unfold pv at *
  rw [run_eql_struct, this]
  rfl

/-- A list that is only read, wherever it lies. -/
def Sn {α : Type} (R : Rec α) (w : World) (ao : Option Addr) (l : List α) : Prop :=
  l = [] ∨ ∃ g off, ao = some ⟨g, off, none⟩ ∧ g < w.heap.size ∧ ∀ k, k < l.length → At R w g (off + k * R.n) (l.getD k R.zero)
section
variable {α : Type} {R : Rec α} {w w' : World} {ao : Option Addr} {l : List α}
theorem Sn.nil (R : Rec α) (w : World) (ao : Option Addr) : Sn R w ao [] := Or.inl rfl
theorem Sn.same (h : Sn R w ao l) (hs : w.heap.size ≤ w'.heap.size) (hb : ∀ g off, ao = some ⟨g, off, none⟩ → g < w.heap.size → w'.heap[g]? = w.heap[g]?) : Sn R w' ao l := by
  rcases h with h | ⟨g, off, e, hg, hc⟩
  · exact Or.inl h
  · exact Or.inr ⟨g, off, e, Nat.lt_of_lt_of_le hg hs, fun k hk => (hc k hk).same (hb g off e hg)⟩
theorem Sn.below (h : Sn R w ao l) (hb : Below w.heap.size w w') : Sn R w' ao l := h.same hb.size fun g _ _ hg => hb.block g hg
theorem Sn.at (h : Sn R w ao l) {k : Nat} (hk : k < l.length) : ∃ g off, ao = some ⟨g, off, none⟩ ∧ g < w.heap.size ∧ At R w g (off + k * R.n) (l.getD k R.zero) := by
  rcases h with rfl | ⟨g, off, e, hg, hc⟩
  · simp at hk
  · exact ⟨g, off, e, hg, hc k hk⟩
theorem Row.sn {B : Nat} {n c : Nat} (h : Row R B w (.slice ao n c) l) : Sn R w ao l := by
  by_cases e : l = []
  · exact Or.inl e
  · obtain ⟨g, e1, -, -, hg, -⟩ := h.at (List.length_pos_iff.2 e)
    refine Or.inr ⟨g, 0, e1, hg, fun k hk => ?_⟩
    obtain ⟨g', e2, -, -, -, -, -, hat⟩ := h.at hk
    rw [e1] at e2
    cases e2
    rw [Nat.zero_add]
    exact hat
theorem Sn.one {b o : Nat} {x : α} (hb : b < w.heap.size) (h : At R w b o x) : Sn R w (some ⟨b, o, none⟩) [x] := by
  refine Or.inr ⟨b, o, rfl, hb, fun k hk => ?_⟩
  simp at hk
  subst hk
  simpa using h
theorem Sn.seen (h : Sn R w ao l) (hl : l ≠ []) (c : Nat) : Seen R w ao c l := by
  rcases h with h | ⟨g, off, rfl, hg, hc⟩
  · exact absurd h hl
  · refine ⟨fun e => (by cases e), fun ad e => ?_⟩
    cases e
    exact ⟨g, off, rfl, hg, hc⟩
end
theorem Lst.sn {w : World} {ao : Option Addr} {len : Nat} {D : Nat → AAr} (h : Lst AAr.cells AAr.ok 5 w ao len D) : Sn rAAr w ao ((List.range len).map D) := by
  rcases h with rfl | ⟨g, off, e, hg, hc⟩
  · exact Or.inl rfl
  · refine Or.inr ⟨g, off, e, hg, fun k hk => ?_⟩
    have hk' : k < len := by simpa using hk
    have e2 : ((List.range len).map D).getD k rAAr.zero = D k := by
      rw [List.getD_eq_getElem?_getD, List.getElem?_map, List.getElem?_range hk']
      rfl
    rw [e2]
    exact fun j hj => (hc k hk').2 j hj
theorem AAr.sn {w : World} {ao : Option Addr} {L : List AAr} (h : Sn rAAr w ao L) {k : Nat} (hk : k < L.length) : ∃ g off, ao = some ⟨g, off, none⟩ ∧ g < w.heap.size ∧ w.cell? ⟨g, off + k * 5, none⟩ = some (.int .i64 (L.getD k AAr.zero).a) ∧ w.cell? ⟨g, off + k * 5 + 1, none⟩ = some (.int .i64 (L.getD k AAr.zero).b) ∧ w.cell? ⟨g, off + k * 5 + 2, none⟩ = some (.bool (L.getD k AAr.zero).w) ∧ w.cell? ⟨g, off + k * 5 + 3, none⟩ = some (.bool (L.getD k AAr.zero).x) ∧ w.cell? ⟨g, off + k * 5 + 4, none⟩ = some (.bool (L.getD k AAr.zero).h) := by
  obtain ⟨g, off, e, hg, hat⟩ := h.at hk
  exact ⟨g, off, e, hg, AAr.at hat⟩

def spanB (a b : Int) : Bool := decide (0 ≤ a ∧ a < b ∧ b ≤ 4096)
theorem spanB_iff (a b : Int) : spanB a b = true ↔ SpanA a b := by simp [spanB, SpanA]
set_option maxHeartbeats 400000 in
theorem span_any (a b : Int) (w : World) :
    Calls Try.prog 72 #[.int .i64 a, .int .i64 b] w fun e w' => e = .returned (.bool (spanB a b)) ∧ w' = w := by
  by_cases h1 : 0 ≤ a <;> by_cases h2 : a < b <;> by_cases h3 : b ≤ 4096
  all_goals
    have HS : spanB a b = (decide (0 ≤ a) && (decide (a < b) && decide (b ≤ 4096))) := by
      unfold spanB
      rw [Bool.decide_and, Bool.decide_and]
    rw [HS]
    clear HS
    go_enter Try.func72, Try.ntmps72
    go_wp2
    go_ret
    exact ⟨ret_bool (by simp [h1, h2, h3]), rfl⟩
set_option maxHeartbeats 400000 in
theorem rspan_any (a b : Int) (w : World) :
    Calls Try.prog 49 #[.int .i64 a, .int .i64 b] w fun e w' => e = .returned (.bool (spanB a b)) ∧ w' = w := by
  by_cases h1 : 0 ≤ a <;> by_cases h2 : a < b <;> by_cases h3 : b ≤ 4096
  all_goals
    have HS : spanB a b = (decide (0 ≤ a) && (decide (a < b) && decide (b ≤ 4096))) := by
      unfold spanB
      rw [Bool.decide_and, Bool.decide_and]
    rw [HS]
    clear HS
    go_enter Try.func49, Try.ntmps49
    go_wp2
    go_ret
    exact ⟨ret_bool (by simp [h1, h2, h3]), rfl⟩

set_option maxHeartbeats 1000000 in
theorem one_any (c d : AAr) (w : World) :
    Calls Try.prog 73 #[av c, av d] w fun e w' => e = .returned (.bool (oneB c d)) ∧ Below w.heap.size w w' := by
  have hE := eql_rt c.w c.x d.w d.x
  unfold av oneB
  obtain ⟨ca, cb, cw, cx, ch⟩ := c
  obtain ⟨da, db, dw, dx, dh⟩ := d
  simp only at *
  go_enter Try.func73, Try.ntmps73
  go_wp2
  all_goals
    go_ret
    refine ⟨ret_bool ?_, ((Below.refl _ _).alloc (Nat.le_refl _) _).alloc (by simp) _⟩
    simp_all
theorem follow_any (c d : AAr) (w : World) :
    Calls Try.prog 77 #[av c, av d] w fun e w' => e = .returned (.bool (decide (c.b ≤ d.a) && !oneB c d)) ∧ Below w.heap.size w w' := by
  have hO := fun w => one_any c d w
  generalize oneB c d = o at *
  have HB : Hid (Below w.heap.size w ((w.alloc (.cells c.arr 55)).alloc (.cells d.arr 55))) := ((Below.refl _ _).alloc (Nat.le_refl _) _).alloc (by simp) _
  unfold AAr.arr at HB
  unfold av at *
  obtain ⟨ca, cb, cw, cx, ch⟩ := c
  obtain ⟨da, db, dw, dx, dh⟩ := d
  simp only at *
  by_cases h : cb ≤ da
  · go_enter Try.func77, Try.ntmps77
    go_wp2_with fail
    refine (hO _).mono ?_
    rintro e w1 ⟨rfl, hb⟩
    have HB1 : Hid (Below w.heap.size w w1) := below_call HB.out (by simp; omega) hb
    clear hb hO HB
    go_wp2
    go_ret
    exact ⟨ret_bool (by simp [h]), HB1.out⟩
  · go_enter Try.func77, Try.ntmps77
    go_wp2
    go_ret
    exact ⟨ret_bool (by simp; omega), HB.out⟩

set_option maxHeartbeats 1000000 in
theorem rarea_any (d : APg) (a b : Int) (w : World) :
    Calls Try.prog 53 #[pv d, .int .i64 a, .int .i64 b] w fun e w' => e = .returned (av ⟨a, b, d.w, d.x, d.h⟩) ∧ Below w.heap.size w w' := by
  obtain ⟨dis, dw, dx, dh⟩ := d
  unfold pv av
  simp only
  go_enter Try.func53, Try.ntmps53
  go_wp2
  refine bodyPost_ret (v := .agg #[.int .i64 a, .int .i64 b, .bool dw, .bool dx, .bool dh]) ?_ rfl ⟨rfl, ((Below.refl _ _).alloc (Nat.le_refl _) _).alloc (by simp) _⟩
  simp [results, Try.results53, go_sem]
end Go.Proofs.Ytoimmapdkapheaa
