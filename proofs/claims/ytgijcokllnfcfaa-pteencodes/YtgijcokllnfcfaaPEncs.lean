/- PteEncodes answers true for all arguments. -/
import Derived.Test.YtgijcokllnfcfaaPRefWord
import Derived.Test.YtgijcokllnfcfaaPRefMay
import Derived.Lib.IfaceEq
namespace Go.Proofs.Ytgijcokllnfcfaa
open Go.RowKit

theorem eq_err (n : Int) (w : World) : (binOp .eql 27 (.iface 30 (.int .i64 n)) (.iface 30 (.int .i64 n))).run Try.prog w = .ok (.bool true) w := by
  have := Lib.run_eql_iface_int (P := Try.prog) w (t := 27) (tx := 30) (k := .i64) n n Try.underlying27 (by kernel_rfl) Try.underlying30
  rw [beq_self_eq_true] at this
  exact this

set_option maxHeartbeats 1000000 in
theorem encodes_no (l : Int) (d : Dsc) (w : World) (hm : mayD l d = false) :
    Calls Try.prog 4 #[.int .i64 l, dv d] w fun e w' => e = .returned (.bool true) ∧ Below w.heap.size w w' := by
  have hE := fun w => encode_no l d w hm
  have hM := refMay_any l d
  rw [hm] at hM
  have hq := eq_err 1
  unfold dv at *
  go_enter Try.func4, Try.ntmps4
  go_wp2_with fail
  refine (up_any _).mono ?_
  rintro e w1 ⟨rfl, hb⟩
  have B1 := (Box.new w d).below hb
  have L1 := below_new (Below.refl w.heap.size w) (Nat.le_refl _) hb
  clear hb
  obtain ⟨ka, k0, k1, k2, k3, k4, k5, k6⟩ := B1.rules
  go_wp2_with fail
  refine (hE _).mono ?_
  rintro e w2 ⟨rfl, hb⟩
  have L2 := below_call L1 L1.size hb
  have B2 := B1.below hb
  clear hb ka k0 k1 k2 k3 k4 k5 k6 B1 L1 hE
  obtain ⟨ka, k0, k1, k2, k3, k4, k5, k6⟩ := B2.rules
  go_wp2_with fail
  refine (hM _).mono ?_
  rintro e w3 ⟨rfl, hb⟩
  have L3 := below_call L2 L2.size hb
  clear hb ka k0 k1 k2 k3 k4 k5 k6 B2 L2 hM
  go_wp2
  go_ret
  exact ⟨rfl, L3⟩

set_option maxHeartbeats 1000000 in
theorem encodes_yes (l : Int) (d : Dsc) (w : World) (hm : mayD l d = true) :
    Calls Try.prog 4 #[.int .i64 l, dv d] w fun e w' => e = .returned (.bool true) ∧ Below w.heap.size w w' := by
  have hE := fun w => encode_yes l d w hm
  have hM := refMay_any l d
  have hW := fun w => refWord_any l d w hm
  rw [hm] at hM
  obtain ⟨y, hy⟩ : ∃ y, y = wordD d := ⟨_, rfl⟩
  rw [← hy] at hE hW
  clear hy
  unfold dv at *
  go_enter Try.func4, Try.ntmps4
  go_wp2_with fail
  refine (up_any _).mono ?_
  rintro e w1 ⟨rfl, hb⟩
  have B1 := (Box.new w d).below hb
  have L1 := below_new (Below.refl w.heap.size w) (Nat.le_refl _) hb
  clear hb
  obtain ⟨ka, k0, k1, k2, k3, k4, k5, k6⟩ := B1.rules
  go_wp2_with fail
  refine (hE _).mono ?_
  rintro e w2 ⟨rfl, hb⟩
  have L2 := below_call L1 L1.size hb
  have B2 := B1.below hb
  clear hb ka k0 k1 k2 k3 k4 k5 k6 B1 L1 hE
  obtain ⟨ka, k0, k1, k2, k3, k4, k5, k6⟩ := B2.rules
  go_wp2_with fail
  refine (hM _).mono ?_
  rintro e w3 ⟨rfl, hb⟩
  have L3 := below_call L2 L2.size hb
  have B3 := B2.below hb
  clear hb ka k0 k1 k2 k3 k4 k5 k6 B2 L2 hM
  obtain ⟨ka, k0, k1, k2, k3, k4, k5, k6⟩ := B3.rules
  go_wp2_with fail
  refine (hW _).mono ?_
  rintro e w4 ⟨rfl, hb⟩
  have L4 := below_call L3 L3.size hb
  clear hb ka k0 k1 k2 k3 k4 k5 k6 B3 L3 hW
  go_wp2
  go_ret
  exact ⟨rfl, L4⟩

theorem walk_pteEncodes (l : Int) (d : Dsc) (w : World) (_hl : -9223372036854775808 ≤ l ∧ l ≤ 9223372036854775807) :
    Calls Try.prog 4 #[.int .i64 l, dv d] w fun e w' => e = .returned (.bool true) ∧ Below w.heap.size w w' := by
  cases hm : mayD l d
  · exact encodes_no l d w hm
  · exact encodes_yes l d w hm
end Go.Proofs.Ytgijcokllnfcfaa
