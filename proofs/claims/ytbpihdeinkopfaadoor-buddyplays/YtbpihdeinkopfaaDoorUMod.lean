/- The document's store: a row of bools. New, Block, All, Set. -/
import Derived.Test.YtbpihdeinkopfaaDoorUAli
import Derived.Test.YtbpihdeinkopfaaDoorZRow4
import Derived.Test.YtbpihdeinkopfaaDoorUBlk
import Derived.Test.YtbpihdeinkopfaaDoorWPow
namespace Go.Proofs.YtbpihdeinkopfaaDoor
open Go.RowKit

theorem ocell_one (b : Bool) : ∀ u ∈ ([.bool b] : List Value), u.oneCell' = true := by
  intro u hu
  simp only [List.mem_cons, List.not_mem_nil, or_false] at hu
  subst hu
  rfl
def rO : Rec Bool := ⟨4, 1, 1, false, fun b => [.bool b], fun _ => rfl, by decide, ocell_one⟩
theorem rO.kin : Kin Tryd.prog rO 31 := Kin.of (z := .bool false) Tryd.underlying31 (by kernel_rfl) rfl
theorem rO.at {w : World} {b o : Nat} {d : Bool} (h : At rO w b o d) : w.cell? ⟨b, o, none⟩ = some (.bool d) := h 0 (by decide)

set_option maxHeartbeats 1000000 in
theorem refNew_any (n : Nat) (w : World) (h : n ≤ 512) :
    Calls Tryd.prog 11 #[.int .i64 n] w fun e w' => ∃ v, e = .returned v ∧ Row rO w.heap.size w' v (List.replicate n true) ∧ Below w.heap.size w w' := by
  go_enter Tryd.func11, Tryd.ntmps11
  go_wp2
  go_loopw [3, 4] (fun v iv W => ∃ k : Nat, k ≤ n ∧ iv = .int .i64 k ∧ Hid (Row rO w.heap.size W v (List.replicate k true)) ∧ Hid (Below w.heap.size w W)) (fun _ iv _ => n - (intOf iv).toNat)
  case atStart => exact ⟨0, Nat.zero_le _, rfl, Row.nil _ _ _, Below.refl _ _⟩
  case round =>
    obtain ⟨k, hk, rfl, HV, HB⟩ := hrel
    by_cases hlt : k < n
    · have hltz : (k : Int) < (n : Int) := by omega
      have HVA : Hid (Row rO w.heap.size (wr.alloc (.cells #[.bool true] 4)) u3 (List.replicate k true)) := HV.out.below ((Below.refl _ _).alloc (Nat.le_refl _) _)
      have HS : Hid (w.heap.size ≤ wr.heap.size) := HB.out.size
      have HLV : Hid (∀ g, u3.ownBlock = some g → w.heap.size ≤ g) := fun g hg => (HV.out.lt g hg).1
      clear HV
      go_wp2_with (at_builtin; refine list_app rO.kin rfl _ _ rfl w.heap.size _ (List.replicate k true) [true] rfl HVA.out (some ⟨wr.heap.size, 0, none⟩) 1 1 rfl rfl ?a2 ?a3 ?a4 ?a5 ?_)
      case a2 => exact Seen.one (by simp) (At.new (R := rO) _ true _ rfl) 1
      case a3 => simp only [List.length_replicate, List.length_cons, List.length_nil]; unfold maxLen; omega
      case a4 => simp only [List.length_replicate, List.length_cons, List.length_nil, show rO.bytes = 1 from rfl]; omega
      case a5 => have := HS.out; simp; omega
      intro v' w2 hrow hgrow
      have HR2 : Hid (Row rO w.heap.size w2 v' (List.replicate (k + 1) true)) := by rw [List.replicate_succ']; exact hrow
      have HB2 : Hid (Below w.heap.size w w2) := (HB.out.alloc HS.out _).grown hgrow (by have := HS.out; simp; omega) HLV.out
      clear hrow hgrow HVA HB HS HLV
      go_wp2
      go_roundw
      case rel => exact ⟨k + 1, by omega, by go_num, HR2, HB2⟩
      case measure => simp only [intOf]; omega
    · obtain rfl : k = n := by omega
      go_wp2
      go_ret
      exact ⟨_, rfl, HV.out, HB.out⟩

theorem pw_mod' (f k : Nat) : ((f : Int) % pw k == 0) = decide (f % 2 ^ k = 0) := by
  rw [Bool.eq_iff_iff]
  simp only [beq_iff_eq, decide_eq_true_eq]
  exact pw_mod f k
set_option maxHeartbeats 2000000 in
theorem refBlock_any (ao : Option Addr) (n c : Nat) (z o : Int) (w : World) (hn : n ≤ 512) :
    Calls Tryd.prog 13 #[.slice ao n c, .int .i64 z, .int .i64 o] w fun e w' => e = .returned (.bool (hasB n z o)) ∧ w' = w := by
  by_cases h : 0 ≤ o ∧ o ≤ 5 ∧ 0 ≤ z ∧ z < n
  · obtain ⟨h1, h2, h3, h4⟩ := h
    obtain ⟨k, rfl⟩ : ∃ k : Nat, o = k := ⟨o.toNat, by omega⟩
    obtain ⟨f, rfl⟩ : ∃ f : Nat, z = f := ⟨z.toNat, by omega⟩
    have hP := fun w => power_any k w (by omega)
    have hpp := pw_pos k
    have hps := pw_small k (by omega)
    have hne : ¬ (pw k = 0) := by omega
    have hm := pw_mod' f k
    have he : hasB n f k = (decide (f % 2 ^ k = 0) && decide ((f : Int) + pw k ≤ (n : Int))) := by
      unfold hasB
      rw [Bool.eq_iff_iff]
      simp only [decide_eq_true_eq, Bool.and_eq_true, Int.toNat_natCast]
      unfold pw
      omega
    rw [he]
    clear he
    by_cases hd : f % 2 ^ k = 0
    · rw [decide_eq_true hd] at hm ⊢
      rw [Bool.true_and]
      clear hd
      generalize pw k = pk at *
      go_enter Tryd.func13, Tryd.ntmps13
      go_wp2_with (go_at_call 22; refine (hP _).mono ?_; rintro e w5 ⟨rfl, hw⟩; obtain rfl := hw.symm; clear hw)
      go_ret
      exact ⟨rfl, rfl⟩
    · rw [decide_eq_false hd] at hm ⊢
      rw [Bool.false_and]
      clear hd
      generalize pw k = pk at *
      go_enter Tryd.func13, Tryd.ntmps13
      go_wp2_with (go_at_call 22; refine (hP _).mono ?_; rintro e w5 ⟨rfl, hw⟩; obtain rfl := hw.symm; clear hw)
      go_ret
      exact ⟨rfl, rfl⟩
  · have he : hasB n z o = false := by
      unfold hasB
      rw [decide_eq_false_iff_not]
      have := Nat.two_pow_pos o.toNat
      omega
    rw [he]
    clear he
    have hx : (¬ 0 ≤ o) ∨ (0 ≤ o ∧ ¬ o ≤ 5) ∨ (0 ≤ o ∧ o ≤ 5 ∧ ¬ 0 ≤ z) ∨ (0 ≤ o ∧ o ≤ 5 ∧ 0 ≤ z ∧ ¬ z < n) := by omega
    clear h
    rcases hx with h1 | ⟨h1, h2⟩ | ⟨h1, h2, h3⟩ | ⟨h1, h2, h3, h4⟩
    all_goals
      go_enter Tryd.func13, Tryd.ntmps13
      go_wp2
      go_ret
      exact ⟨rfl, rfl⟩

/-- All frames of a block are so. -/
def allM (M : List Bool) (b : Bk) (f : Bool) : Prop := ∀ x, inB b x → M.getD x false = f
set_option maxHeartbeats 2000000 in
theorem refAll_any {B : Nat} {w : World} {v : Value} {M : List Bool} (hr : Row rO B w v M) (hn : M.length ≤ 512) (b : Bk) (h5 : b.2 ≤ 5) (hb : bend b ≤ M.length) (f r : Bool) (hr' : r = true ↔ allM M b f) :
    Calls Tryd.prog 17 #[v, .int .i64 b.1, .int .i64 b.2, .bool f] w fun e w' => e = .returned (.bool r) ∧ w' = w := by
  obtain ⟨ao, c, rfl⟩ := hr.form
  have hP := fun w => power_any b.2 w (by omega)
  have hpp := pw_pos b.2
  have HP : Hid (pw b.2 = ((2 ^ b.2 : Nat) : Int)) := rfl
  have hbe : b.1 + 2 ^ b.2 ≤ M.length := hb
  have HR : Hid (Row rO B w (.slice ao M.length c) M) := hr
  have HA : Hid (r = true ↔ allM M b f) := hr'
  clear hr hr'
  go_enter Tryd.func17, Tryd.ntmps17
  go_wp2
  go_loopw [9] (fun iv W => ∃ j : Nat, j ≤ 2 ^ b.2 ∧ iv = .int .i64 j ∧ W = w ∧ Hid (∀ i, i < j → M.getD (b.1 + i) false = f)) (fun iv _ => 2 ^ b.2 - (intOf iv).toNat)
  case atStart => exact ⟨0, Nat.zero_le _, rfl, rfl, (fun i hi => by omega : ∀ i, i < 0 → M.getD (b.1 + i) false = f)⟩
  case round =>
    obtain ⟨j, hj, rfl, rfl, HI⟩ := hrel
    by_cases hjl : j < 2 ^ b.2
    · have hjz : (j : Int) < pw b.2 := by have := HP.out; omega
      have hlt : b.1 + j < M.length := by omega
      have hltz : (b.1 : Int) + (j : Int) < (M.length : Int) := by omega
      obtain ⟨g, rfl, _, _, hg, _, _, hat⟩ := HR.out.at hlt
      have c0 := rO.at hat
      simp only [show rO.n = 1 from rfl, show rO.zero = false from rfl, Nat.mul_one] at c0
      obtain ⟨m, hm⟩ : ∃ m, M.getD (b.1 + j) false = m := ⟨_, rfl⟩
      rw [hm] at c0
      have htn : ((b.1 : Int) + (j : Int)).toNat = b.1 + j := by omega
      have h0 : (0 : Int) ≤ (b.1 : Int) + (j : Int) := by omega
      have HM : Hid (M.getD (b.1 + j) false = m) := hm
      clear hat hm
      by_cases hmf : m = f
      · have hmf' : (m == f) = true := by simp [hmf]
        have HI2 : Hid (∀ i, i < j + 1 → M.getD (b.1 + i) false = f) := fun i hi => by
          rcases Nat.lt_or_ge i j with h' | h'
          · exact HI.out i h'
          · obtain rfl : i = j := by omega
            rw [HM.out, hmf]
        subst hmf
        go_wp2_with (go_at_call 22; refine (hP _).mono ?_; rintro e w5 ⟨rfl, hw⟩; obtain rfl := hw.symm; clear hw)
        go_roundw
        case rel => exact ⟨j + 1, by omega, by go_num, by first | rfl | trivial, HI2⟩
        case measure => simp only [intOf]; omega
      · have hmf' : (m == f) = false := by simp [hmf]
        have hrf : r = false := by
          cases r with
          | false => rfl
          | true =>
            have := HA.out.1 rfl (b.1 + j) ⟨Nat.le_add_right _ _, by show b.1 + j < b.1 + 2 ^ b.2; omega⟩
            exact absurd (HM.out.symm.trans this) hmf
        subst hrf
        clear hmf
        go_wp2_with (go_at_call 22; refine (hP _).mono ?_; rintro e w5 ⟨rfl, hw⟩; obtain rfl := hw.symm; clear hw)
        go_ret
        exact ⟨rfl, rfl⟩
    · have hjz : ¬ (j : Int) < pw b.2 := by have := HP.out; omega
      have hrt : r = true := HA.out.2 fun x hx => by
        have := HI.out (x - b.1) (by have := hx.1; have : x < b.1 + 2 ^ b.2 := hx.2; omega)
        rwa [show b.1 + (x - b.1) = x by have := hx.1; omega] at this
      subst hrt
      go_wp2_with (go_at_call 22; refine (hP _).mono ?_; rintro e w5 ⟨rfl, hw⟩; obtain rfl := hw.symm; clear hw)
      go_ret
      exact ⟨rfl, rfl⟩
end Go.Proofs.YtbpihdeinkopfaaDoor
