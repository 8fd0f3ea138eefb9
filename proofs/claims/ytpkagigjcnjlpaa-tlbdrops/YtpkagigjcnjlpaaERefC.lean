/- The document's answer: do two entries clash? -/
import Derived.Test.YtpkagigjcnjlpaaERef
namespace Go.Proofs.Ytpkagigjcnjlpaa
open Go.RowKit

/-- Where a page of both is found: what the document's text answers there. -/
theorem told_there {a b : Ent} (ha : mayB a = true) (hb : mayB b = true) (ka : a.base ≤ 9223372036854775807) (kb : b.base ≤ 9223372036854775807) {i : Int} (h0 : 0 ≤ i) (hi : i < pw a.order) (h : isB b a.asid (a.first + i) = true) (u v : Int)
    (hu : u = wrap64 (a.base + i)) (hv : v = wrap64 (wrap64 (b.base + (a.first + i)) - b.first)) :
    clashB a b = (u != v || (a.order != b.order || (a.writ != b.writ || a.exe != b.exe))) := by
  rw [clash_page ha hb h0 hi h]
  have hs := fun e => same_first ha hb h0 hi h e
  have pa := may_parts ha
  have pb := may_parts hb
  rw [isB_iff] at h
  obtain ⟨a1, a2, a3, a4, a5, a6⟩ := a
  obtain ⟨b1, b2, b3, b4, b5, b6⟩ := b
  simp only at hs pa pb h ka kb hu hv
  unfold eqE
  simp only
  refine dite (a3 = b3) (fun h3 => ?_) (fun h3 => by
    have e1 : (a3 == b3) = false := by simpa using h3
    have e2 : (a3 != b3) = true := by simpa using h3
    rw [e1, e2]
    simp)
  have h2 := hs h3
  subst h3 h2
  have h1 : b1 = a1 := by omega
  subst h1
  have h4 : (u = v) ↔ a4 = b4 := by
    unfold wrap64 at hu hv
    omega
  have h4' : (u != v) = !(a4 == b4) := by
    rw [Bool.eq_iff_iff]
    simp [h4]
  rw [h4']
  simp
  cases (a4 == b4) <;> cases a5 <;> cases b5 <;> cases a6 <;> cases b6 <;> rfl

set_option maxRecDepth 100000 in
set_option maxHeartbeats 4000000 in
theorem refClash_any (a b : Ent) (w : World) (ha : mayB a = true) (hb : mayB b = true) (ka : a.base ≤ 9223372036854775807) (kb : b.base ≤ 9223372036854775807) :
    Calls Try.prog 13 #[ev a, ev b] w fun e w' => e = .returned (.bool (clashB a b)) ∧ Below w.heap.size w w' := by
  have hP := fun w => power_any a.order w
  have hI := fun s p w => Is_any b s p w hb
  have hnone := clash_none ha hb
  have hthere := fun i h0 hi h => told_there ha hb ka kb (i := i) h0 hi h
  obtain ⟨-, fa, ba, oa⟩ := may_parts ha
  obtain ⟨-, fb, bb, -⟩ := may_parts hb
  have L := ((Below.refl w.heap.size w).alloc (Nat.le_refl _) (.cells (ecells a) 26)).alloc (by simp) (.cells (ecells b) 26)
  have A := (Laid.new w 26 (ecells a)).below ((Below.refl _ _).alloc (Nat.le_refl _) (.cells (ecells b) 26))
  have B := Laid.new (w.alloc (.cells (ecells a) 26)) 26 (ecells b)
  simp at B
  obtain ⟨q, hq⟩ : ∃ q : Nat, pw a.order = q := ⟨(pw a.order).toNat, by omega⟩
  have hq8 : q ≤ 8 := by omega
  rw [hq] at hP hnone hthere
  clear ha hb oa hq
  unfold ev at *
  have HB : Hid _ := And.intro A (And.intro B L)
  have HN : Hid _ := hnone
  have HT : Hid _ := hthere
  clear A B L hnone hthere
  go_enter Try.func13, Try.ntmps13
  go_wp2_with fail
  go_loopw [5, 6, 7] (fun i _ _ W => ∃ k : Nat, k ≤ q ∧ i = .int .i64 k ∧ Hid (∀ j : Nat, j < k → isB b a.asid (a.first + j) = false) ∧ Hid (Laid W w.heap.size 26 (ecells a)) ∧ Hid (Laid W (w.heap.size + 1) 26 (ecells b)) ∧ Below w.heap.size w W) (fun i _ _ _ => q - (intOf i).toNat)
  case atStart => exact ⟨0, by omega, rfl, fun j hj => by omega, HB.out.1, HB.out.2.1, HB.out.2.2⟩
  case round =>
    obtain ⟨k, hk, rfl, hno, hA, hB, L⟩ := hrel
    clear HB
    obtain ⟨a0, a1, a2, a3, a4, a5⟩ := hA.out.ent
    obtain ⟨b0, b1, b2, b3, b4, b5⟩ := hB.out.ent
    by_cases hlt : k < q
    · cases hx : isB b a.asid (a.first + k) with
      | false =>
        have hI' := hI a.asid (a.first + k)
        rw [hx] at hI'
        have HX : Hid _ := hx
        clear hx hI
        go_wp2_with (go_at_call 31; refine (hP _).mono ?_; rintro e w1 ⟨rfl, hw⟩; obtain rfl := hw.symm; clear hw)
        refine (hI' _).mono ?_
        rintro e w1 ⟨rfl, hb⟩
        have L1 := below_call L L.size hb
        have hA1 : Hid _ := hA.out.below hb
        have hB1 : Hid _ := hB.out.below hb
        clear a0 a1 a2 a3 a4 a5 b0 b1 b2 b3 b4 b5 hb hA hB L
        go_wp2
        go_roundw
        case rel => exact ⟨k + 1, by omega, by go_num, fun j hj => by
          rcases Nat.lt_succ_iff_lt_or_eq.1 hj with h | rfl
          · exact hno.out j h
          · exact HX.out, hA1, hB1, L1⟩
        case measure => simp [intOf]; omega
      | true =>
        have hI' := hI a.asid (a.first + k)
        rw [hx] at hI'
        have HX : Hid _ := hx
        clear hx hI hno
        go_wp2_with (go_at_call 31; refine (hP _).mono ?_; rintro e w1 ⟨rfl, hw⟩; obtain rfl := hw.symm; clear hw)
        refine (hI' _).mono ?_
        rintro e w1 ⟨rfl, hb⟩
        have L1 := below_call L L.size hb
        have hA1 := hA.out.below hb
        have hB1 := hB.out.below hb
        clear a0 a1 a2 a3 a4 a5 b0 b1 b2 b3 b4 b5 hb hA hB L
        obtain ⟨a0, a1, a2, a3, a4, a5⟩ := hA1.ent
        obtain ⟨b0, b1, b2, b3, b4, b5⟩ := hB1.ent
        have hT := HT.out k (by omega) (by omega) HX.out _ _ rfl rfl
        clear hA1 hB1 HT HX HN hI' hP
        have HT' : Hid _ := hT
        clear hT
        go_wp2
        all_goals go_ret
        all_goals refine ⟨ret_bool ?_, L1⟩
        all_goals rw [HT'.out]
        all_goals (simp_all; try (cases a.exe <;> cases b.exe <;> rfl))
    · obtain rfl : k = q := by omega
      clear HT hI
      go_wp2_with (go_at_call 31; refine (hP _).mono ?_; rintro e w1 ⟨rfl, hw⟩; obtain rfl := hw.symm; clear hw)
      go_ret
      refine ⟨ret_bool ?_, L⟩
      refine (HN.out fun i h0 hi => ?_).symm
      obtain ⟨j, rfl⟩ := Int.eq_ofNat_of_zero_le h0
      exact hno.out j (by omega)
end Go.Proofs.Ytpkagigjcnjlpaa
