/- What bbm.sayAlike answers. -/
import Derived.Test.YtjijgpdfoilijaaBLeaf
namespace Go.Proofs.Ytjijgpdfoilijaa
open Go.RowKit

set_option maxRecDepth 100000 in
set_option maxHeartbeats 4000000 in
theorem sayAlike_any (l : Int) (x y : Nat) (w : World) (hx : x < 18446744073709551616) (hy : y < 18446744073709551616) (h : lvlB l = true) :
    Calls Try.prog 37 #[.int .i64 l, .int .u64 x, .int .u64 y] w fun e w' => e = .returned (.bool (alikeB (saysD l x) (saysD l y))) ∧ Below w.heap.size w w' := by
  have s1 := fun w => decode_yes l x w hx h
  have s2 := fun w => decode_yes l y w hy h
  clear h
  generalize saysD l x = a at *
  generalize saysD l y = b at *
  by_cases h1 : a.kind = 5
  · rw [show alikeB a b = false by unfold alikeB; rw [decide_eq_false (fun h => h.1 h1), Bool.false_and]]
    have h1' : (a.kind == 5) = true := by simp [h1]
    clear h1
    unfold dv at s1 s2
    go_enter Try.func37, Try.ntmps37
    go_wp2_with fail
    refine (s1 _).mono ?_
    rintro e w1 ⟨rfl, hb⟩
    have L1 := below_call (Below.refl w.heap.size w) (Nat.le_refl _) hb
    clear hb
    go_wp2_with fail
    refine (s2 _).mono ?_
    rintro e w2 ⟨rfl, hb⟩
    have B1 := (Box.new w1 a).below hb
    have L2 := below_new L1 L1.size hb
    obtain ⟨r0, r1, -⟩ := B1.rules
    clear hb
    go_wp2
    go_ret
    exact ⟨rfl, L2.alloc L2.size _⟩
  by_cases h2 : b.kind = 5
  · rw [show alikeB a b = false by unfold alikeB; rw [decide_eq_false (fun h => h.2 h2), Bool.false_and]]
    have h1' : (a.kind == 5) = false := by simpa using h1
    have h2' : (b.kind == 5) = true := by simp [h2]
    clear h1 h2
    unfold dv at s1 s2
    go_enter Try.func37, Try.ntmps37
    go_wp2_with fail
    refine (s1 _).mono ?_
    rintro e w1 ⟨rfl, hb⟩
    have L1 := below_call (Below.refl w.heap.size w) (Nat.le_refl _) hb
    clear hb
    go_wp2_with fail
    refine (s2 _).mono ?_
    rintro e w2 ⟨rfl, hb⟩
    have B1 := (Box.new w1 a).below hb
    have L2 := below_new L1 L1.size hb
    obtain ⟨r0, r1, -⟩ := B1.rules
    clear hb
    go_wp2
    go_ret
    exact ⟨rfl, L2.alloc L2.size _⟩
  rw [show alikeB a b = eqD (mixD a b) b by unfold alikeB; rw [decide_eq_true ⟨h1, h2⟩, Bool.true_and]]
  have hq := eql_dsc (mixD a b) b
  have h1' : (a.kind == 5) = false := by simpa using h1
  have h2' : (b.kind == 5) = false := by simpa using h2
  obtain ⟨r, hr⟩ : ∃ r, r = eqD (mixD a b) b := ⟨_, rfl⟩
  rw [← hr] at hq ⊢
  unfold dv at *
  unfold mixD at hq
  clear h1 h2 hr
  simp only at hq
  go_enter Try.func37, Try.ntmps37
  go_wp2_with fail
  refine (s1 _).mono ?_
  rintro e w1 ⟨rfl, hb⟩
  have L1 := below_call (Below.refl w.heap.size w) (Nat.le_refl _) hb
  clear hb
  go_wp2_with fail
  refine (s2 _).mono ?_
  rintro e w2 ⟨rfl, hb⟩
  have B1 := (Box.new w1 a).below hb
  have T1 : Thaw w2 w1.heap.size := Thaw.below ⟨by simp, fun o => by simp⟩ hb
  have L2 := below_new L1 L1.size hb
  have hz : w1.heap.size < w2.heap.size := by have := hb.size; simp at this; omega
  have hzs := L1.size
  obtain ⟨r0, c0, c1, c2, c3, c4, c5, c6⟩ := B1.rules
  obtain ⟨f0, f1⟩ := T1.rules
  generalize w1.heap.size = g at *
  clear hb B1 T1 s1 s2 L1
  go_wp2_with fail
  go_region
  go_wp2
  go_ret
  refine ⟨rfl, ?_⟩
  have L3 : Below w.heap.size w ((w2.setCell ⟨g, 4, none⟩ (.bool b.sn)).setCell ⟨g, 6, none⟩ (.int .i64 b.so)) := (L2.setCell hzs _).setCell hzs _
  exact (L3.alloc (by have := L3.size; omega) _).drew
end Go.Proofs.Ytjijgpdfoilijaa
