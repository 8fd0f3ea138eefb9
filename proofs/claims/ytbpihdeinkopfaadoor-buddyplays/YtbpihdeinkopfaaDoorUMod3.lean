/- The document's store: Free, Take. -/
import Derived.Test.YtbpihdeinkopfaaDoorUMod2
namespace Go.Proofs.YtbpihdeinkopfaaDoor
open Go.RowKit

set_option maxRecDepth 100000 in
set_option maxHeartbeats 8000000 in
theorem refFree_any {B : Nat} {w : World} {v : Value} {M : List Bool} (hr : Row rO B w v M) {n : Nat} {L : List Bk} (ho : Okl n L) (hn : M.length = n) (hcv : ∀ x, covB L x = M.getD x false) :
    Calls Tryd.prog 26 #[v] w fun e w' => ∃ v', e = .returned v' ∧ Row rB w.heap.size w' v' L ∧ Below w.heap.size w w' := by
  have hmx := ho.max
  obtain ⟨ao, c, rfl⟩ := hr.form
  have HR : Hid (Row rO B w (.slice ao M.length c) M) := hr
  have HD : Hid (∀ A, FA M M.length A → A = L) := fun A h => h.done ho hcv
  have hBk := fun z o w => refBlock_any ao M.length c z o w (by omega)
  have hln : M.length ≤ 512 := by omega
  clear hr ho hcv hn
  go_enter Tryd.func26, Tryd.ntmps26
  go_wp2
  go_loopw [3, 4] (fun vo av W => ∃ (a : Nat) (A : List Bk), a ≤ M.length ∧ av = .int .i64 a ∧ Hid (FA M a A) ∧ Hid (Row rB w.heap.size W vo A) ∧ Hid (Below w.heap.size w W)) (fun _ av _ => M.length - (intOf av).toNat)
  case atStart => exact ⟨0, [], Nat.zero_le _, rfl, FA.nil M, Row.nil _ _ _, Below.refl _ _⟩
  case round =>
    obtain ⟨a, A, ha, rfl, HA, HV, HB⟩ := hrel
    by_cases hlt : a < M.length
    · have hltz : (a : Int) < (M.length : Int) := by omega
      obtain ⟨g, rfl, _, _, hg, _, _, hat⟩ := (HR.out.below HB.out).at hlt
      have c0 := rO.at hat
      simp only [show rO.n = 1 from rfl, show rO.zero = false from rfl, Nat.mul_one] at c0
      cases hm : M.getD a false with
      | false =>
        rw [hm] at c0
        have HA2 : Hid (FA M (a + 1) A) := HA.out.skip hlt hm
        clear hat hm HA
        go_wp2
        go_roundw
        case rel => exact ⟨a + 1, A, by omega, by go_num, HA2, HV, HB⟩
        case measure => simp only [intOf]; omega
      | true =>
        rw [hm] at c0
        have HM : Hid (M.getD a false = true) := hm
        clear hat hm
        go_wp2_with fail
        clear c0
        go_loopw [5] (fun ov W => ∃ o : Nat, o ≤ 5 ∧ ov = .int .i64 o ∧ W = wr ∧ Hid (alB (a, o) ∧ bend (a, o) ≤ M.length ∧ allM M (a, o) true)) (fun ov _ => 5 - (intOf ov).toNat)
        case atStart => exact ⟨0, by omega, rfl, rfl, ⟨⟨by show (0 : Nat) ≤ 5; omega, ⟨a, by simp⟩⟩, by unfold bend; simp only; omega, fun x hx => by have h1 : a ≤ x := hx.1; have h2 : x < a + 2 ^ 0 := hx.2; obtain rfl : x = a := (by omega); exact HM.out⟩⟩
        case round =>
          obtain ⟨o, h5, rfl, rfl, HO⟩ := hrel
          have hB1 := fun w => hBk (a : Int) ((o : Int) + 1) w
          have hgo : (o < 5 ∧ hasB M.length a ((o : Int) + 1) = true ∧ allM M (a, o + 1) true) ∨ (¬ o < 5) ∨ (o < 5 ∧ hasB M.length a ((o : Int) + 1) = false) ∨ (o < 5 ∧ hasB M.length a ((o : Int) + 1) = true ∧ ¬ allM M (a, o + 1) true) := by
            by_cases h1 : o < 5
            · cases h2 : hasB M.length a ((o : Int) + 1) with
              | false => exact Or.inr (Or.inr (Or.inl ⟨h1, rfl⟩))
              | true =>
                by_cases h3 : allM M (a, o + 1) true
                · exact Or.inl ⟨h1, rfl, h3⟩
                · exact Or.inr (Or.inr (Or.inr ⟨h1, rfl, h3⟩))
            · exact Or.inr (Or.inl h1)
          have HNX : Hid (hasB M.length a ((o : Int) + 1) = true → alB (a, o + 1) ∧ bend (a, o + 1) ≤ M.length) := fun h => by
            obtain ⟨f', k', e1, e2, h1, h2⟩ := hasB_nat h
            obtain rfl : a = f' := by omega
            obtain rfl : o + 1 = k' := by omega
            exact ⟨h1, h2⟩
          have HLF : Hid (o < 5 → 2 ^ (o + 1) ∣ a → (hasB M.length a ((o : Int) + 1) = false ∨ ¬ allM M (a, o + 1) true) → ∃ x, a ≤ x ∧ x < a + 2 ^ (o + 1) ∧ M.getD x false = false) := fun h1 h2 h3 => by
            rcases h3 with h3 | h3
            · have hgt : M.length < a + 2 ^ (o + 1) := by
                rcases Nat.lt_or_ge M.length (a + 2 ^ (o + 1)) with c' | c'
                · exact c'
                · have := hasB_of (n := M.length) (f := a) (k := o + 1) ⟨h1, h2⟩ c'
                  rw [show ((o + 1 : Nat) : Int) = (o : Int) + 1 by omega, h3] at this
                  cases this
              exact ⟨M.length, by omega, hgt, getD_ge (Nat.le_refl _)⟩
            · have ⟨x, hx⟩ := Classical.not_forall.1 h3
              have ⟨hx1, hx2⟩ := Classical.not_imp.1 hx
              exact ⟨x, hx1.1, hx1.2, by cases h4 : M.getD x false with | false => rfl | true => exact absurd h4 hx2⟩
          rcases hgo with ⟨h1, h2, h3⟩ | hex
          · rw [h2] at hB1
            obtain ⟨n1, n2⟩ := HNX.out h2
            have hAl := refAll_any (HR.out.below HB.out) hln (a, o + 1) n1.1 n2 true true ⟨fun _ => h3, fun _ => rfl⟩
            rw [show (((a, o + 1) : Bk).2 : Int) = (o : Int) + 1 by simp] at hAl
            have hz : (o : Int) < 5 := by omega
            have HO2 : Hid (alB (a, o + 1) ∧ bend (a, o + 1) ≤ M.length ∧ allM M (a, o + 1) true) := ⟨n1, n2, h3⟩
            clear h2 h3 n1 n2 HNX HLF HO
            go_wp2_with fail
            refine (hB1 _).mono ?_
            rintro e w5 ⟨rfl, hw⟩
            obtain rfl := hw.symm
            clear hw
            go_wp2_with fail
            refine hAl.mono ?_
            rintro e w5 ⟨rfl, hw⟩
            obtain rfl := hw.symm
            clear hw
            go_wp2
            go_roundw
            case rel => exact ⟨o + 1, by omega, by go_num, by first | rfl | trivial, HO2⟩
            case measure => simp only [intOf]; omega
          · have hPw := fun w => power_any o w (by omega)
            have hpp := pw_pos o
            have HP : Hid (pw o = ((2 ^ o : Nat) : Int)) := rfl
            have hbe : a + 2 ^ o ≤ M.length := HO.out.2.1
            have hps : (a : Int) + pw o ≤ 512 := by have := HP.out; omega
            have hAe : Hid (FA M (a + 2 ^ o) (A ++ [(a, o)])) := HA.out.add HO.out.1 HO.out.2.1 HO.out.2.2 fun h1 h2 => HLF.out h1 h2 (by
              rcases hex with h | h | h
              · exact absurd h1 h
              · exact Or.inl h.2
              · exact Or.inr h.2.2)
            have hAl2 : A.length + 1 ≤ 512 := by
              have := hAe.out.len
              rw [List.length_append] at this
              simp at this
              omega
            have HVA : Hid (Row rB w.heap.size (wr.alloc (.cells #[.int .i64 a, .int .i64 o] 48)) u3 A) := HV.out.below ((Below.refl _ _).alloc (Nat.le_refl _) _)
            have HS : Hid (w.heap.size ≤ wr.heap.size) := HB.out.size
            have HLV : Hid (∀ g, u3.ownBlock = some g → w.heap.size ≤ g) := fun g hg => (HV.out.lt g hg).1
            have hAll : hasB M.length a ((o : Int) + 1) = true → o < 5 → ¬ allM M (a, o + 1) true → Calls Tryd.prog 17 #[.slice (some ⟨g, 0, none⟩) M.length c, .int .i64 a, .int .i64 ((o : Int) + 1), .bool true] wr fun e w' => e = .returned (.bool false) ∧ w' = wr := fun h2 h1 h3 => by
              obtain ⟨n1, n2⟩ := HNX.out h2
              have := refAll_any (HR.out.below HB.out) hln (a, o + 1) n1.1 n2 true false ⟨fun h => (by cases h), fun h => absurd h h3⟩
              rwa [show (((a, o + 1) : Bk).2 : Int) = (o : Int) + 1 by simp] at this
            clear HV HNX HLF HO HA HM
            rcases hex with h1 | ⟨h1, h2⟩ | ⟨h1, h2, h3⟩
            · have hz : ¬ (o : Int) < 5 := by omega
              clear hAll hB1 h1
              go_wp2_with (first | (at_builtin; refine list_app rB.kin rfl _ _ rfl w.heap.size _ A [(a, o)] rfl HVA.out (some ⟨wr.heap.size, 0, none⟩) 1 1 rfl rfl ?a2 ?a3 ?a4 ?a5 ?_))
              case a2 => exact Seen.one (by simp) (At.new (R := rB) _ (a, o) _ rfl) 1
              case a3 => show A.length + 1 ≤ _; unfold maxLen; omega
              case a4 => show (A.length + 1) * 16 ≤ _; omega
              case a5 => have := HS.out; simp; omega
              intro v' w2 hrow hgrow
              have HR2 : Hid (Row rB w.heap.size w2 v' (A ++ [(a, o)])) := hrow
              have HB2 : Hid (Below w.heap.size w w2) := (HB.out.alloc HS.out _).grown hgrow (by have := HS.out; simp; omega) HLV.out
              clear hrow hgrow HVA HB HS HLV
              go_wp2_with (go_at_call 22; refine (hPw _).mono ?_; rintro e w5 ⟨rfl, hw⟩; obtain rfl := hw.symm; clear hw)
              go_roundw
              case rel => exact ⟨a + 2 ^ o, A ++ [(a, o)], hbe, by have := HP.out; rw [this]; simp, hAe, HR2, HB2⟩
              case measure => have := HP.out; have := Nat.two_pow_pos o; simp only [intOf]; omega
            · have hz : (o : Int) < 5 := by omega
              rw [h2] at hB1
              clear hAll h1 h2
              go_wp2_with (first | (at_builtin; refine list_app rB.kin rfl _ _ rfl w.heap.size _ A [(a, o)] rfl HVA.out (some ⟨wr.heap.size, 0, none⟩) 1 1 rfl rfl ?a2 ?a3 ?a4 ?a5 ?_) | (go_at_call 13; refine (hB1 _).mono ?_; rintro e w5 ⟨rfl, hw⟩; obtain rfl := hw.symm; clear hw))
              case a2 => exact Seen.one (by simp) (At.new (R := rB) _ (a, o) _ rfl) 1
              case a3 => show A.length + 1 ≤ _; unfold maxLen; omega
              case a4 => show (A.length + 1) * 16 ≤ _; omega
              case a5 => have := HS.out; simp; omega
              intro v' w2 hrow hgrow
              have HR2 : Hid (Row rB w.heap.size w2 v' (A ++ [(a, o)])) := hrow
              have HB2 : Hid (Below w.heap.size w w2) := (HB.out.alloc HS.out _).grown hgrow (by have := HS.out; simp; omega) HLV.out
              clear hrow hgrow HVA HB HS HLV
              go_wp2_with (go_at_call 22; refine (hPw _).mono ?_; rintro e w5 ⟨rfl, hw⟩; obtain rfl := hw.symm; clear hw)
              go_roundw
              case rel => exact ⟨a + 2 ^ o, A ++ [(a, o)], hbe, by have := HP.out; rw [this]; simp, hAe, HR2, HB2⟩
              case measure => have := HP.out; have := Nat.two_pow_pos o; simp only [intOf]; omega
            · have hz : (o : Int) < 5 := by omega
              have hA3 := hAll h2 h1 h3
              rw [h2] at hB1
              clear hAll h1 h2 h3
              go_wp2_with (first | (at_builtin; refine list_app rB.kin rfl _ _ rfl w.heap.size _ A [(a, o)] rfl HVA.out (some ⟨wr.heap.size, 0, none⟩) 1 1 rfl rfl ?a2 ?a3 ?a4 ?a5 ?_) | (go_at_call 13; refine (hB1 _).mono ?_; rintro e w5 ⟨rfl, hw⟩; obtain rfl := hw.symm; clear hw) | (go_at_call 17; refine hA3.mono ?_; rintro e w5 ⟨rfl, hw⟩; obtain rfl := hw.symm; clear hw))
              case a2 => exact Seen.one (by simp) (At.new (R := rB) _ (a, o) _ rfl) 1
              case a3 => show A.length + 1 ≤ _; unfold maxLen; omega
              case a4 => show (A.length + 1) * 16 ≤ _; omega
              case a5 => have := HS.out; simp; omega
              intro v' w2 hrow hgrow
              have HR2 : Hid (Row rB w.heap.size w2 v' (A ++ [(a, o)])) := hrow
              have HB2 : Hid (Below w.heap.size w w2) := (HB.out.alloc HS.out _).grown hgrow (by have := HS.out; simp; omega) HLV.out
              clear hrow hgrow HVA HB HS HLV
              go_wp2_with (go_at_call 22; refine (hPw _).mono ?_; rintro e w5 ⟨rfl, hw⟩; obtain rfl := hw.symm; clear hw)
              go_roundw
              case rel => exact ⟨a + 2 ^ o, A ++ [(a, o)], hbe, by have := HP.out; rw [this]; simp, hAe, HR2, HB2⟩
              case measure => have := HP.out; have := Nat.two_pow_pos o; simp only [intOf]; omega
    · obtain rfl : a = M.length := by omega
      have hAL := HD.out A HA.out
      rw [hAL] at HV
      go_wp2
      go_ret
      exact ⟨_, rfl, HV.out, HB.out⟩
end Go.Proofs.YtbpihdeinkopfaaDoor
