/- WordFields and WordFound answer true for all arguments; condition: the table lies as its text lays it. -/
import Derived.Test.YthjkjlpiiejkmaaDoorUp
namespace Go.Proofs.YthjkjlpiiejkmaaDoor
open Go.RowKit

theorem fitsB_le {v : Nat} {n : Int} (h : fitsB v n = true) : (v : Int) ≤ lowN n := by simpa [fitsB] using h
theorem fitsB_gt {v : Nat} {n : Int} (h : fitsB v n = false) : lowN n < (v : Int) := by simpa [fitsB] using h

set_option maxHeartbeats 1000000 in
theorem walk_wordFields (x a n v : Int) (w : World) (hT : Tab w) (hx : 0 ≤ x ∧ x ≤ 18446744073709551615) (ha : -9223372036854775808 ≤ a ∧ a ≤ 9223372036854775807) (hn : -9223372036854775808 ≤ n ∧ n ≤ 9223372036854775807) (hv : 0 ≤ v ∧ v ≤ 18446744073709551615) :
    Calls Tryd.prog 3 #[.int .u64 x, .int .i64 a, .int .i64 n, .int .u64 v] w fun e w' => e = .returned (.bool true) ∧ Below w.heap.size w w' := by
  obtain ⟨x, rfl⟩ := Int.eq_ofNat_of_zero_le hx.1
  obtain ⟨v, rfl⟩ := Int.eq_ofNat_of_zero_le hv.1
  have hx2 : x < 18446744073709551616 := by omega
  have hv2 : v < 18446744073709551616 := by omega
  have he1 := fun w => Lib.run_eql_iface_int (P := Tryd.prog) w (t := 25) (tx := 30) (k := .i64) 1 1 Tryd.underlying25 (by kernel_rfl) Tryd.underlying30
  have he8 := fun w => Lib.run_eql_iface_int (P := Tryd.prog) w (t := 25) (tx := 30) (k := .i64) 8 8 Tryd.underlying25 (by kernel_rfl) Tryd.underlying30
  cases hb : mayB a n
  · go_enter Tryd.func3, Tryd.ntmps3
    go_wp2_with fail
    refine (up_any _ hT).mono ?_
    rintro e w1 ⟨rfl, hbel⟩
    go_wp2_with (first
      | (go_at_call 12; refine (field_no _ _ _ _ ha hn hb).mono ?_; rintro e w2 ⟨rfl, hw⟩; obtain rfl := hw.symm; clear hw)
      | (go_at_call 13; refine (put_no _ _ _ _ _ ha hn hb).mono ?_; rintro e w2 ⟨rfl, hw⟩; obtain rfl := hw.symm; clear hw)
      | (go_at_call 14; refine (refMay_any _ _ _ ha hn).mono ?_; rintro e w2 ⟨rfl, hw⟩; obtain rfl := hw.symm; clear hw))
    go_ret
    exact ⟨rfl, hbel⟩
  · obtain ⟨m1, m2, m3, m4⟩ := mayB_true hb
    cases hf : fitsB v n
    · have hgt := fitsB_gt hf
      go_enter Tryd.func3, Tryd.ntmps3
      go_wp2_with fail
      refine (up_any _ hT).mono ?_
      rintro e w1 ⟨rfl, hbel⟩
      go_wp2_with (first
        | (go_at_call 12; refine (field_yes _ _ _ _ hx2 hb).mono ?_; rintro e w2 ⟨rfl, d1, rfl⟩)
        | (go_at_call 13; refine (put_long _ _ _ _ _ hb hgt).mono ?_; rintro e w2 ⟨rfl, hw⟩; obtain rfl := hw.symm; clear hw)
        | (go_at_call 14; refine (refMay_any _ _ _ ha hn).mono ?_; rintro e w2 ⟨rfl, hw⟩; obtain rfl := hw.symm; clear hw)
        | (go_at_call 15; refine (refField_any _ _ _ _ hx2 hb).mono ?_; rintro e w2 ⟨rfl, hw⟩; obtain rfl := hw.symm; clear hw)
        | (go_at_call 16; refine (refFits_any _ _ _ hv2 m2 m3).mono ?_; rintro e w2 ⟨rfl, hw⟩; obtain rfl := hw.symm; clear hw))
      go_ret
      exact ⟨rfl, below_drewN hbel _⟩
    · have hle := fitsB_le hf
      go_enter Tryd.func3, Tryd.ntmps3
      go_wp2_with fail
      refine (up_any _ hT).mono ?_
      rintro e w1 ⟨rfl, hbel⟩
      go_wp2_with (first
        | (go_at_call 12; refine (field_yes _ _ _ _ hx2 hb).mono ?_; rintro e w2 ⟨rfl, d1, rfl⟩)
        | (go_at_call 13; refine (put_yes _ _ _ _ _ hx2 hb hle).mono ?_; rintro e w2 ⟨rfl, d2, rfl⟩)
        | (go_at_call 14; refine (refMay_any _ _ _ ha hn).mono ?_; rintro e w2 ⟨rfl, hw⟩; obtain rfl := hw.symm; clear hw)
        | (go_at_call 15; refine (refField_any _ _ _ _ hx2 hb).mono ?_; rintro e w2 ⟨rfl, hw⟩; obtain rfl := hw.symm; clear hw)
        | (go_at_call 16; refine (refFits_any _ _ _ hv2 m2 m3).mono ?_; rintro e w2 ⟨rfl, hw⟩; obtain rfl := hw.symm; clear hw)
        | (go_at_call 17; refine (refPut_any _ _ _ _ _ hx2 hv2 hb hf).mono ?_; rintro e w2 ⟨rfl, hw⟩; obtain rfl := hw.symm; clear hw))
      go_ret
      exact ⟨rfl, below_drewN hbel _⟩

set_option maxHeartbeats 2000000 in
theorem walk_wordFound (x a n v o m : Int) (w : World) (hT : Tab w) (hx : 0 ≤ x ∧ x ≤ 18446744073709551615) (ha : -9223372036854775808 ≤ a ∧ a ≤ 9223372036854775807) (hn : -9223372036854775808 ≤ n ∧ n ≤ 9223372036854775807) (hv : 0 ≤ v ∧ v ≤ 18446744073709551615)
    (ho : -9223372036854775808 ≤ o ∧ o ≤ 9223372036854775807) (hm : -9223372036854775808 ≤ m ∧ m ≤ 9223372036854775807) :
    Calls Tryd.prog 7 #[.int .u64 x, .int .i64 a, .int .i64 n, .int .u64 v, .int .i64 o, .int .i64 m] w fun e w' => e = .returned (.bool true) ∧ Below w.heap.size w w' := by
  obtain ⟨x, rfl⟩ := Int.eq_ofNat_of_zero_le hx.1
  obtain ⟨v, rfl⟩ := Int.eq_ofNat_of_zero_le hv.1
  have hx2 : x < 18446744073709551616 := by omega
  cases hb : mayB a n
  · go_enter Tryd.func7, Tryd.ntmps7
    go_wp2_with fail
    refine (up_any _ hT).mono ?_
    rintro e w1 ⟨rfl, hbel⟩
    go_wp2_with (go_at_call 13; refine (put_no _ _ _ _ _ ha hn hb).mono ?_; rintro e w2 ⟨rfl, hw⟩; obtain rfl := hw.symm; clear hw)
    go_ret
    exact ⟨rfl, hbel⟩
  · obtain ⟨m1, m2, m3, m4⟩ := mayB_true hb
    cases hf : fitsB v n
    · have hgt := fitsB_gt hf
      go_enter Tryd.func7, Tryd.ntmps7
      go_wp2_with fail
      refine (up_any _ hT).mono ?_
      rintro e w1 ⟨rfl, hbel⟩
      go_wp2_with (go_at_call 13; refine (put_long _ _ _ _ _ hb hgt).mono ?_; rintro e w2 ⟨rfl, hw⟩; obtain rfl := hw.symm; clear hw)
      go_ret
      exact ⟨rfl, hbel⟩
    · have hle := fitsB_le hf
      have hp := Nat.two_pow_pos n.toNat
      have hv2 : v < 2 ^ n.toNat := by unfold lowN at hle; omega
      have hpl := pt_lt x a.toNat n.toNat v hx2 hv2 (by omega)
      have hfp := fld_pt x a.toNat n.toNat v hv2
      have hF1 := fun w => field_yes (pt x a.toNat n.toNat v) a n w hpl hb
      rw [hfp] at hF1
      clear hp hfp
      go_enter Tryd.func7, Tryd.ntmps7
      go_wp2_with fail
      refine (up_any _ hT).mono ?_
      rintro e w1 ⟨rfl, hbel⟩
      go_wp2_with fail
      refine (put_yes _ _ _ _ _ hx2 hb hle).mono ?_
      rintro e w2 ⟨rfl, d2, rfl⟩
      go_wp2_with fail
      refine (hF1 _).mono ?_
      rintro e w2 ⟨rfl, d3, rfl⟩
      cases hc : mayB o m
      · go_wp2_with fail
        refine (field_no _ _ _ _ ho hm hc).mono ?_
        rintro e w2 ⟨rfl, hw⟩
        obtain rfl := hw.symm
        clear hw
        go_wp2_with fail
        refine (field_no _ _ _ _ ho hm hc).mono ?_
        rintro e w2 ⟨rfl, hw⟩
        obtain rfl := hw.symm
        clear hw
        go_wp2
        go_quiet (fail)
        go_wp2
        go_ret
        exact ⟨rfl, by simpa using below_drewN hbel _⟩
      · obtain ⟨q1, q2, q3, q4⟩ := mayB_true hc
        go_wp2_with fail
        refine (field_yes _ _ _ _ hx2 hc).mono ?_
        rintro e w2 ⟨rfl, d4, rfl⟩
        go_wp2_with fail
        refine (field_yes _ _ _ _ hpl hc).mono ?_
        rintro e w2 ⟨rfl, d5, rfl⟩
        by_cases hov : o < a + n ∧ a < o + m
        · obtain ⟨ov1, ov2⟩ := hov
          go_wp2
          go_quiet (fail)
          go_wp2
          go_ret
          exact ⟨rfl, by simpa using below_drewN hbel _⟩
        · have hoth := fld_pt_other x a.toNat n.toNat v o.toNat m.toNat hv2 (by omega)
          by_cases ov1 : o < a + n
          · have ov2 : ¬ a < o + m := fun h => hov ⟨ov1, h⟩
            clear hov
            rw [hoth]
            go_wp2
            go_ret
            exact ⟨rfl, below_drewN hbel _⟩
          · clear hov
            rw [hoth]
            go_wp2
            go_ret
            exact ⟨rfl, below_drewN hbel _⟩
end Go.Proofs.YthjkjlpiiejkmaaDoor
