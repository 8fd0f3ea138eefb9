/- BuddyNew, walked. -/
import Derived.Test.YtbpihdeinkopfaaDoorUSame
namespace Go.Proofs.YtbpihdeinkopfaaDoor
open Go.RowKit

theorem new_model {n : Nat} (h : n ≤ 512) (x : Nat) : covB (blkL 0 n) x = (List.replicate n true).getD x false := by
  have hc := new_cov h x
  rw [List.getD_eq_getElem?_getD, List.getElem?_replicate]
  by_cases hx : x < n
  · rw [if_pos hx, (covB_iff _ _).2 (hc.2 hx)]
    rfl
  · rw [if_neg hx, (covB_false _ _).2 fun e => hx (hc.1 e)]
    rfl

set_option maxRecDepth 100000 in
set_option maxHeartbeats 4000000 in
theorem walk_buddyNew (a0 : Int) (w : World) (hT : Tab w) (b0 : -9223372036854775808 ≤ a0 ∧ a0 ≤ 9223372036854775807) :
    Calls Tryd.prog 3 #[.int .i64 a0] w fun e w' => e = .returned (.bool true) ∧ Below w.heap.size w w' := by
  have hU := up_any w hT
  by_cases h : 1 ≤ a0 ∧ a0 ≤ 512
  · obtain ⟨n, rfl⟩ : ∃ n : Nat, a0 = n := ⟨a0.toNat, by omega⟩
    have h1 : ¬ (n : Int) < 1 := by omega
    have h2 : ¬ (512 : Int) < (n : Int) := by omega
    have hR := fun w => refNew_any n w (by omega)
    have HT : Hid (Tab w) := hT
    have HM : Hid (∀ x, covB (blkL 0 n) x = (List.replicate n true).getD x false) := new_model (by omega)
    have HK : Hid (Okl n (blkL 0 n)) := new_okl (by omega)
    have hn1 : 1 ≤ n := by omega
    have hn2 : n ≤ 512 := by omega
    clear hT h b0
    go_enter Tryd.func3, Tryd.ntmps3
    go_wp2_with fail
    refine hU.mono ?_
    rintro e w1 ⟨rfl, hb1⟩
    have hN := new_yes n w1 (HT.out.below hb1 (Nat.le_refl _)) hn1 hn2
    generalize blkL 0 n = L at *
    clear hU
    go_wp2_with fail
    refine hN.mono ?_
    rintro e w2 ⟨p, rfl, ⟨v2, S2⟩, hb2⟩
    clear hN
    go_wp2_with fail
    refine (hR _).mono ?_
    rintro e w3 ⟨vm, rfl, R3, hb3⟩
    have hS := same_any (S2.below hb3) HK.out R3 (by simp) HM.out
    have HB : Hid (Below w.heap.size w w3) := below_call' (below_call' hb1 hb2) hb3
    clear hR S2 R3 hb1 hb2 hb3
    go_wp2_with fail
    refine hS.mono ?_
    rintro e w4 ⟨rfl, hb4⟩
    clear hS
    go_wp2
    go_ret
    exact ⟨rfl, below_call' HB.out hb4⟩
  · have hN := fun w => new_no a0 w h
    have he := eq_err 1
    by_cases h1 : a0 < 1
    · clear hT h b0
      go_enter Tryd.func3, Tryd.ntmps3
      go_wp2_with fail
      refine hU.mono ?_
      rintro e w1 ⟨rfl, hb1⟩
      clear hU
      go_wp2_with (go_at_call 9; refine (hN _).mono ?_; rintro e w5 ⟨rfl, hw⟩; obtain rfl := hw.symm; clear hw)
      go_ret
      exact ⟨rfl, hb1⟩
    · have h2 : (512 : Int) < a0 := by omega
      clear hT h b0
      go_enter Tryd.func3, Tryd.ntmps3
      go_wp2_with fail
      refine hU.mono ?_
      rintro e w1 ⟨rfl, hb1⟩
      clear hU
      go_wp2_with (go_at_call 9; refine (hN _).mono ?_; rintro e w5 ⟨rfl, hw⟩; obtain rfl := hw.symm; clear hw)
      go_ret
      exact ⟨rfl, hb1⟩
end Go.Proofs.YtbpihdeinkopfaaDoor
