/- AreaChecks, walked. -/
import Derived.Test.YtaeodbeodacmaaaATell
namespace Go.Proofs.Ytaeodbeodacmaaa
open Go.RowKit

theorem lstN {len : Nat} (D : Nat → AAr) : ((List.range len).map D).length = len := by simp
set_option maxRecDepth 100000 in
set_option maxHeartbeats 8000000 in
theorem checks_any {w : World} {ao : Option Addr} {c : Nat} {L : List AAr} (hs : Sn rAAr w ao L) (hm : L.length ≤ maxLen) :
    Calls Try.prog 3 #[.slice ao L.length c] w fun e w' => e = .returned (.bool true) ∧ Below w.heap.size w w' := by
  have hU := up_any w
  have he := eq_code 1 1
  rw [beq_self_eq_true] at he
  have HS : Hid (Sn rAAr w ao L) := hs
  have HM : Hid (L.length ≤ maxLen) := hm
  have hm' : L.length ≤ 9223372036854775807 := by unfold maxLen at hm; omega
  clear hs hm
  by_cases h200 : L.length ≤ 200
  · have h200z : ¬ (200 : Int) < (L.length : Int) := by omega
    go_enter Try.func3, Try.ntmps3
    go_wp2_with fail
    refine hU.mono ?_
    rintro e w1 ⟨rfl, hb1⟩
    have HB1 : Hid (Below w.heap.size w w1) := hb1
    have hC := check_any (c := c) (HS.out.below hb1) HM.out
    clear hU hb1
    go_wp2_with fail
    refine hC.mono ?_
    rintro e w2 ⟨h2, hb2⟩
    have HB2 : Hid (Below w.heap.size w w2) := below_call' HB1.out hb2
    have hY := may_any (c := c) (HS.out.below HB2.out) HM.out
    clear hC hb2 HB1
    rcases h2 with ⟨h2, rfl⟩ | ⟨h2, rfl⟩
    · have H2 : Hid (MayA L) := h2
      clear h2
      go_wp2_with fail
      refine hY.mono ?_
      rintro e w3 ⟨h3, hb3⟩
      have HB3 : Hid (Below w.heap.size w w3) := below_call' HB2.out hb3
      clear hY hb3
      rcases h3 with ⟨h3, rfl⟩ | ⟨h3, rfl⟩
      · clear h3
        go_wp2
        go_ret
        exact ⟨rfl, HB3.out⟩
      · exact absurd H2.out h3
    · have H2 : Hid (¬ MayA L) := h2
      clear h2
      go_wp2_with fail
      refine hY.mono ?_
      rintro e w3 ⟨h3, hb3⟩
      have HB3 : Hid (Below w.heap.size w w3) := below_call' HB2.out hb3
      clear hY hb3
      rcases h3 with ⟨h3, rfl⟩ | ⟨h3, rfl⟩
      · exact absurd h3 H2.out
      · clear h3
        go_wp2
        go_ret
        exact ⟨rfl, HB3.out⟩
  · have h200z : (200 : Int) < (L.length : Int) := by omega
    go_enter Try.func3, Try.ntmps3
    go_wp2_with fail
    refine hU.mono ?_
    rintro e w1 ⟨rfl, hb1⟩
    have HB1 : Hid (Below w.heap.size w w1) := hb1
    clear hU hb1
    go_wp2
    go_ret
    exact ⟨rfl, HB1.out⟩
theorem walk_areaChecks (ao : Option Addr) (len cap : Nat) (D : Nat → AAr) (w : World) (hm : len ≤ maxLen) (hL : Lst AAr.cells AAr.ok 5 w ao len D) :
    Calls Try.prog 3 #[.slice ao len cap] w fun e w' => e = .returned (.bool true) ∧ Below w.heap.size w w' := by
  have h := checks_any (c := cap) hL.sn (by rw [lstN]; exact hm)
  rwa [lstN] at h
end Go.Proofs.Ytaeodbeodacmaaa
