/- What word.Field and the reference's Bit, Field and Put answer, each for all arguments within the bounds that its theorem names. -/
import Derived.Test.YtjijgpdfoilijaaZ
import Derived.Test.YtjijgpdfoilijaaWMath
namespace Go.Proofs.Ytjijgpdfoilijaa
open Go.RowKit


set_option maxHeartbeats 400000 in
theorem mayField_any (a n : Int) (w : World) (ha : -9223372036854775808 ≤ a ∧ a ≤ 9223372036854775807) (hn : -9223372036854775808 ≤ n ∧ n ≤ 9223372036854775807) :
    Calls Try.prog 49 #[.int .i64 a, .int .i64 n] w fun e w' => e = .returned (.bool (mayB a n)) ∧ w' = w := by
  obtain ⟨ha, ha'⟩ := ha; obtain ⟨hn, hn'⟩ := hn
  go_enter Try.func49, Try.ntmps49
  go_wp2
  all_goals go_ret
  all_goals refine ⟨ret_bool ?_, rfl⟩
  all_goals (rw [Bool.eq_iff_iff]; simp [mayB]; try omega)

/-- The lowest n bits set. -/
def lowN (n : Int) : Int := ((2 ^ n.toNat - 1 : Nat) : Int)
theorem lowN_eq (n : Int) (hn : 1 ≤ n) (hn' : n ≤ 64) : (18446744073709551615 : Int) / 2 ^ (64 - n).toNat = lowN n := by
  have := low_eq n.toNat (by omega) (by omega)
  have e : (64 - n).toNat = 64 - n.toNat := by omega
  unfold lowN
  rw [← this, e]
  simp

set_option maxHeartbeats 400000 in
theorem lowBits_any (n : Int) (w : World) (hn : 1 ≤ n) (hn' : n ≤ 64) :
    Calls Try.prog 50 #[.int .i64 n] w fun e w' => e = .returned (.int .u64 (lowN n)) ∧ w' = w := by
  rw [← lowN_eq n hn hn']
  go_enter Try.func50, Try.ntmps50
  go_wp2
  go_ret
  exact ⟨rfl, rfl⟩

/-- A bit. -/
def bitN (x : Nat) (i : Int) : Int := ((x / 2 ^ i.toNat % 2 : Nat) : Int)
theorem bitN_eq (x : Nat) (i : Int) (hx : x < 18446744073709551616) : bits BinOp.and IntKind.u64 ((x : Int) / 2 ^ i.toNat) 1 = bitN x i := by
  have e : (x : Int) / 2 ^ i.toNat = ((x / 2 ^ i.toNat : Nat) : Int) := by simp
  rw [e, show (1 : Int) = ((1 : Nat) : Int) from rfl, u64_and_nat _ _ (Nat.lt_of_le_of_lt (Nat.div_le_self _ _) hx) (by decide), nat_mask1]
  rfl

set_option maxHeartbeats 400000 in
theorem bit_any (x : Nat) (i : Int) (w : World) (hx : x < 18446744073709551616) (hn : 0 ≤ i) (hn' : i ≤ 63) :
    Calls Try.prog 38 #[.int .u64 x, .int .i64 i] w fun e w' => e = .returned (.int .u64 (bitN x i)) ∧ w' = w := by
  rw [← bitN_eq x i hx]
  go_enter Try.func38, Try.ntmps38
  go_wp2
  go_ret
  exact ⟨rfl, rfl⟩



theorem field_bits (x : Nat) (a n : Int) (hx : x < 18446744073709551616) (hn : n ≤ 64) : bits BinOp.and IntKind.u64 ((x : Int) / 2 ^ a.toNat) (lowN n) = (fld x a.toNat n.toNat : Int) := by
  have e : (x : Int) / 2 ^ a.toNat = ((x / 2 ^ a.toNat : Nat) : Int) := by simp
  have hl : 2 ^ n.toNat - 1 < 18446744073709551616 := by
    have := Nat.pow_le_pow_right (show 0 < 2 by decide) (show n.toNat ≤ 64 by omega)
    simp only [Nat.reducePow] at this
    omega
  rw [e, lowN, u64_and_nat _ _ (Nat.lt_of_le_of_lt (Nat.div_le_self _ _) hx) hl, fld_and]

set_option maxHeartbeats 400000 in
theorem field_yes (x : Nat) (a n : Int) (w : World) (hx : x < 18446744073709551616) (h : mayB a n = true) :
    Calls Try.prog 48 #[.int .u64 x, .int .i64 a, .int .i64 n] w fun e w' => e = .returned (.tuple #[.int .u64 (fld x a.toNat n.toNat), .nilIface]) ∧ ∃ d, w' = w.drewN d := by
  rw [← field_bits x a n hx (mayB_true h).2.2.1]
  obtain ⟨h1, h2, h3, h4⟩ := mayB_true h
  have h5 : a ≤ 63 := by omega
  go_enter Try.func48, Try.ntmps48
  go_wp2_with (go_at_call 49; refine (mayField_any _ _ _ (by omega) (by omega)).mono ?_; rintro e w1 ⟨rfl, hw⟩; obtain rfl := hw.symm)
  go_quiet ((go_at_call 50; exact Calls.quiet_of_same (lowBits_any _ _ h2 h3)))
  go_wp2
  go_ret2
  exact ⟨rfl, _, rfl⟩

set_option maxHeartbeats 400000 in
theorem field_no (x : Nat) (a n : Int) (w : World) (ha : -9223372036854775808 ≤ a ∧ a ≤ 9223372036854775807) (hn : -9223372036854775808 ≤ n ∧ n ≤ 9223372036854775807) (h : mayB a n = false) :
    Calls Try.prog 48 #[.int .u64 x, .int .i64 a, .int .i64 n] w fun e w' => e = .returned (.tuple #[.int .u64 0, .iface 49 (.int .i64 1)]) ∧ w' = w := by
  go_enter Try.func48, Try.ntmps48
  go_wp2_with (go_at_call 49; refine (mayField_any _ _ _ ha hn).mono ?_; rintro e w1 ⟨rfl, hw⟩; obtain rfl := hw.symm)
  go_ret2
  exact ⟨rfl, rfl⟩

/-- The upper part of a field, as the loop has it. -/
def fldI (x : Nat) (a n k : Int) : Int := (fld x (a + k).toNat (n - k).toNat : Int)
theorem fldI_end (x : Nat) (a n : Int) : fldI x a n n = 0 := by unfold fldI fld; simp [Nat.mod_one]
theorem fldI_zero (x : Nat) (a n : Int) : fldI x a n 0 = (fld x a.toNat n.toNat : Int) := by unfold fldI; simp
theorem fldI_step (x : Nat) (a n k : Int) (h0 : 0 ≤ a) (hk : 0 ≤ k) (hn : k < n) : fldI x a n k = fldI x a n (k + 1) * 2 + bitN x (a + k) := by
  unfold fldI bitN
  have e1 : (n - k).toNat = (n - (k + 1)).toNat + 1 := by omega
  have e2 : (a + k).toNat = a.toNat + k.toNat := by omega
  have e3 : (a + (k + 1)).toNat = a.toNat + (k.toNat + 1) := by omega
  rw [e1, e2, e3, fld_step]
  simp
theorem fldI_bd (x : Nat) (a n k : Int) (hx : x < 18446744073709551616) : 0 ≤ fldI x a n k ∧ fldI x a n k < 18446744073709551616 := by
  unfold fldI fld
  have h1 : x / 2 ^ (a + k).toNat % 2 ^ (n - k).toNat ≤ x / 2 ^ (a + k).toNat := Nat.mod_le _ _
  have h2 : x / 2 ^ (a + k).toNat ≤ x := Nat.div_le_self _ _
  omega
theorem bitN_bd (x : Nat) (i : Int) : 0 ≤ bitN x i ∧ bitN x i ≤ 1 := by unfold bitN; omega

/-- Has v at most n bits? -/
def fitsB (v : Nat) (n : Int) : Bool := decide ((v : Int) ≤ lowN n)
theorem fitsB_false_of (v : Nat) (n i : Int) (hn : 1 ≤ n) (hi : n ≤ i) (h : bitN v i = 1) : fitsB v n = false := by
  unfold fitsB lowN
  rw [decide_eq_false_iff_not]
  intro hle
  have hp := Nat.two_pow_pos n.toNat
  have := bits_of_fits v n.toNat i.toNat (by omega) (by omega)
  unfold bitN at h
  omega
theorem fitsB_true_of (v : Nat) (n : Int) (hv : v < 18446744073709551616) (hn : 1 ≤ n) (h : ∀ i : Int, n ≤ i → i < 64 → bitN v i ≠ 1) : fitsB v n = true := by
  unfold fitsB lowN
  rw [decide_eq_true_iff]
  have := fits_of_bits v n.toNat hv (fun i hi h64 => by
    have := h i (by omega) (by omega)
    unfold bitN at this
    rw [show ((i : Int)).toNat = i from by omega] at this
    intro hh
    exact this (by rw [hh]; rfl))
  omega

/-- The upper part of what is put, as the loop has it. -/
def ptI (x : Nat) (a n : Int) (v : Nat) (k : Int) : Int := ((pt x a.toNat n.toNat v / 2 ^ k.toNat : Nat) : Int)
theorem ptI_zero (x : Nat) (a n : Int) (v : Nat) : ptI x a n v 0 = (pt x a.toNat n.toNat v : Int) := by unfold ptI; simp
theorem ptI_bd (x : Nat) (a n : Int) (v : Nat) (k : Int) (hx : x < 18446744073709551616) (h : mayB a n = true) (hv : fitsB v n = true) : 0 ≤ ptI x a n v k ∧ ptI x a n v k < 18446744073709551616 := by
  obtain ⟨h1, h2, h3, h4⟩ := mayB_true h
  have hp := Nat.two_pow_pos n.toNat
  have hv2 : v < 2 ^ n.toNat := by unfold fitsB lowN at hv; rw [decide_eq_true_iff] at hv; omega
  have := pt_lt x a.toNat n.toNat v hx hv2 (by omega)
  have h2 : pt x a.toNat n.toNat v / 2 ^ k.toNat ≤ pt x a.toNat n.toNat v := Nat.div_le_self _ _
  unfold ptI
  generalize pt x a.toNat n.toNat v / 2 ^ k.toNat = q at *
  omega
theorem ptI_end (x : Nat) (a n : Int) (v : Nat) (hx : x < 18446744073709551616) (h : mayB a n = true) (hv : fitsB v n = true) : ptI x a n v 64 = 0 := by
  have := ptI_bd x a n v 0 hx h hv
  rw [ptI_zero] at this
  unfold ptI
  rw [Nat.div_eq_of_lt]
  · rfl
  · have e : (2 : Nat) ^ (64 : Int).toNat = 18446744073709551616 := by decide
    rw [e]; omega
theorem ptI_step (x : Nat) (a n : Int) (v : Nat) (k : Int) (h : mayB a n = true) (hv : fitsB v n = true) (hk : 0 ≤ k) :
    ptI x a n v k = ptI x a n v (k + 1) * 2 + if a ≤ k ∧ k < a + n then bitN v (k - a) else bitN x k := by
  obtain ⟨h1, h2, h3, h4⟩ := mayB_true h
  have hp := Nat.two_pow_pos n.toNat
  have hv2 : v < 2 ^ n.toNat := by unfold fitsB lowN at hv; rw [decide_eq_true_iff] at hv; omega
  have hb := pt_bit x a.toNat n.toNat v k.toNat hv2
  have hd := div_step (pt x a.toNat n.toNat v) k.toNat
  unfold ptI bitN
  rw [show (k + 1).toNat = k.toNat + 1 from by omega]
  by_cases hc : a ≤ k ∧ k < a + n
  · rw [if_pos hc]
    rw [if_pos (by omega)] at hb
    rw [show (k - a).toNat = k.toNat - a.toNat from by omega]
    omega
  · rw [if_neg hc]
    rw [if_neg (by omega)] at hb
    omega

set_option maxHeartbeats 1000000 in
theorem refPut_any (x v : Nat) (a n : Int) (w : World) (hx : x < 18446744073709551616) (hv64 : v < 18446744073709551616) (h : mayB a n = true) (hv : fitsB v n = true) :
    Calls Try.prog 30 #[.int .u64 x, .int .i64 a, .int .i64 n, .int .u64 v] w fun e w' => e = .returned (.int .u64 (pt x a.toNat n.toNat v)) ∧ w' = w := by
  obtain ⟨h1, h2, h3, h4⟩ := mayB_true h
  go_enter Try.func30, Try.ntmps30
  go_wp2
  go_loop [9, 10] (fun out i => ∃ k : Int, -1 ≤ k ∧ k ≤ 63 ∧ i = .int .i64 k ∧ out = .int .u64 (ptI x a n v (k + 1))) (fun _ i => (intOf i + 1).toNat)
  case atStart => exact ⟨63, by omega, by omega, rfl, by rw [show (63 : Int) + 1 = 64 from rfl, ptI_end x a n v hx h hv]⟩
  case round =>
    obtain ⟨k, hk0, hkn, rfl, rfl⟩ := hrel
    have b1 := ptI_bd x a n v (k + 1) hx h hv
    by_cases hlt : 0 ≤ k
    · have hst := ptI_step x a n v k h hv (by omega)
      have b2 := ptI_bd x a n v k hx h hv
      have b3 := bitN_bd x k
      have b3' := bitN_bd v (k - a)
      obtain ⟨q, hq⟩ : ∃ q, q = ptI x a n v (k + 1) := ⟨_, rfl⟩
      have HQ : Hid _ := hq
      rw [← hq] at hst b1
      have HZ : Hid (ptI x a n v (k - 1 + 1) = ptI x a n v k) := by unfold Hid; rw [show k - 1 + 1 = k from by omega]
      by_cases hc1 : a ≤ k
      · by_cases hc2 : k < a + n
        · rw [if_pos ⟨hc1, hc2⟩] at hst
          have b4 : q * 2 + bitN v (k - a) < 18446744073709551616 := by omega
          have b5 : q * 2 < 18446744073709551616 := by omega
          have HS : Hid _ := hst
          rw [← hq]
          clear hst b2 hq
          go_wp2_with fail
          refine (bit_any x _ _ hx (by omega) (by omega)).mono ?_
          rintro e w1 ⟨rfl, hw⟩
          obtain rfl := hw.symm
          clear hw
          go_wp2_with fail
          refine (bit_any v _ _ hv64 (by omega) (by omega)).mono ?_
          rintro e w1 ⟨rfl, hw⟩
          obtain rfl := hw.symm
          clear hw
          go_wp2
          go_round
          case rel => exact ⟨k - 1, by omega, by omega, by go_num, by rw [HZ.out, HS.out]⟩
          case measure => simp [intOf]; omega
        · rw [if_neg (fun hh => hc2 hh.2)] at hst
          have b4 : q * 2 + bitN x k < 18446744073709551616 := by omega
          have b5 : q * 2 < 18446744073709551616 := by omega
          have HS : Hid _ := hst
          rw [← hq]
          clear hst b2 hq b3'
          go_wp2_with fail
          refine (bit_any x _ _ hx (by omega) (by omega)).mono ?_
          rintro e w1 ⟨rfl, hw⟩
          obtain rfl := hw.symm
          clear hw
          go_wp2
          go_round
          case rel => exact ⟨k - 1, by omega, by omega, by go_num, by rw [HZ.out, HS.out]⟩
          case measure => simp [intOf]; omega
      · rw [if_neg (fun hh => hc1 hh.1)] at hst
        have b4 : q * 2 + bitN x k < 18446744073709551616 := by omega
        have b5 : q * 2 < 18446744073709551616 := by omega
        have HS : Hid _ := hst
        rw [← hq]
        clear hst b2 hq b3'
        go_wp2_with fail
        refine (bit_any x _ _ hx (by omega) (by omega)).mono ?_
        rintro e w1 ⟨rfl, hw⟩
        obtain rfl := hw.symm
        clear hw
        go_wp2
        go_round
        case rel => exact ⟨k - 1, by omega, by omega, by go_num, by rw [HZ.out, HS.out]⟩
        case measure => simp [intOf]; omega
    · have : k = -1 := by omega
      subst this
      go_wp2
      go_ret
      exact ⟨ret_int (ptI_zero x a n v), rfl⟩
end Go.Proofs.Ytjijgpdfoilijaa
