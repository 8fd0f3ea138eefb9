/- What the reference's Decode answers, for all arguments. -/
import Derived.Test.YteoblaopbhdneaaPRefWord
import Derived.Test.YteoblaopbhdneaaPRefMay
namespace Go.Proofs.Yteoblaopbhdneaa
open Go.RowKit

/-- What a word's fields could say, of a kind. -/
def allD (x : Nat) : Dsc := ⟨0, wF x, decide (w7 x = 0), decide (w54 x = 0), !decide (w10 x = 0), !decide (w52 x = 0), wS x⟩
def candD (k : Int) (x : Nat) : Dsc := if k = 0 then nilD else if k = 1 then ⟨1, wF x, false, false, false, false, 0⟩ else ⟨k, wF x, decide (w7 x = 0), decide (w54 x = 0), !decide (w10 x = 0), !decide (w52 x = 0), wS x⟩
def hitB (l k : Int) (x : Nat) : Bool := mayD l (candD k x) && decide (wordD (candD k x) = x)

theorem cand_kind (k : Int) (x : Nat) : (candD k x).kind = k := by
  unfold candD
  by_cases h0 : k = 0
  · rw [if_pos h0, h0]; rfl
  by_cases h1 : k = 1
  · rw [if_neg h0, if_pos h1, h1]
  rw [if_neg h0, if_neg h1]

theorem hit_says {l k : Int} {x : Nat} (h : hitB l k x = true) : saysD l x = candD k x := by
  simp only [hitB, Bool.and_eq_true, decide_eq_true_eq] at h
  have := says_word l _ h.1
  rw [h.2] at this
  exact this

theorem tell_cand {l : Int} {x : Nat} (h : okN l x = true) : tellD l x = candD (kindN l x) x := by
  unfold tellD candD
  rcases kindN_cases l x with ⟨hk, c⟩ | ⟨hk, c1, c2, c3⟩ | ⟨hk, c1, c2, c3⟩ | ⟨hk, c1, c2, c3⟩ | ⟨hk, c1, c2⟩ | ⟨hk, _⟩
  · rw [hk]
    subst c
    rfl
  · rw [hk]; rfl
  · rw [hk]; simp [rightsB]
  · rw [hk]; simp [rightsB]
  · rw [hk]; simp [rightsB]
  · exact absurd hk (okN_true h).1

theorem none_says {l : Int} {x : Nat} (h0 : 0 ≤ l) (h3 : l ≤ 3) (h : ∀ k : Int, 0 ≤ k → k ≤ 4 → hitB l k x = false) : saysD l x = badD := by
  unfold saysD
  cases ho : okN l x
  · rfl
  exfalso
  have h1 := says_may h0 h3 ho
  rw [tell_cand ho] at h1
  have hb : 0 ≤ kindN l x ∧ kindN l x ≤ 4 := by
    have n5 := (okN_true ho).1
    rcases kindN_cases l x with ⟨hk, c⟩ | ⟨hk, c1, c2, c3⟩ | ⟨hk, c1, c2, c3⟩ | ⟨hk, c1, c2, c3⟩ | ⟨hk, c1, c2⟩ | ⟨hk, _⟩
    all_goals omega
  have h2 := h _ hb.1 hb.2
  unfold hitB at h2
  rw [h1.1, h1.2] at h2
  simp at h2

theorem says_big {l : Int} {x : Nat} (h : 512 ≤ wF x) : saysD l x = badD := by
  unfold saysD
  cases ho : okN l x
  · rfl
  have := (okN_true ho).2.2.2
  omega

theorem refF (x : Nat) (w : World) (hx : x < 18446744073709551616) :
    Calls Try.prog 56 #[.int .u64 x, .int .i64 12, .int .i64 36] w fun e w' => e = .returned (.int .u64 (wF x)) ∧ w' = w := by
  have := refField_any x 12 36 w hx mayB_12
  rw [show fld x (12 : Int).toNat (36 : Int).toNat = wF x from fld_F x] at this
  exact this
theorem refS (x : Nat) (w : World) (hx : x < 18446744073709551616) :
    Calls Try.prog 56 #[.int .u64 x, .int .i64 55, .int .i64 3] w fun e w' => e = .returned (.int .u64 (wS x)) ∧ w' = w := by
  have := refField_any x 55 3 w hx mayB_55
  rw [show fld x (55 : Int).toNat (3 : Int).toNat = wS x from fld_S x] at this
  exact this
theorem bit7 (x : Nat) : bitN x 7 = (w7 x : Int) := by unfold bitN w7; rw [show (2 : Nat) ^ (7 : Int).toNat = 128 from by simp only [Int.reduceToNat, Nat.reducePow]]
theorem bit10 (x : Nat) : bitN x 10 = (w10 x : Int) := by unfold bitN w10; rw [show (2 : Nat) ^ (10 : Int).toNat = 1024 from by simp only [Int.reduceToNat, Nat.reducePow]]
theorem bit52 (x : Nat) : bitN x 52 = (w52 x : Int) := by unfold bitN w52; rw [show (2 : Nat) ^ (52 : Int).toNat = 4503599627370496 from by simp only [Int.reduceToNat, Nat.reducePow]]
theorem bit54 (x : Nat) : bitN x 54 = (w54 x : Int) := by unfold bitN w54; rw [show (2 : Nat) ^ (54 : Int).toNat = 18014398509481984 from by simp only [Int.reduceToNat, Nat.reducePow]]

theorem is0 (n : Nat) : (((n : Nat) : Int) == 0) = decide (n = 0) := by rw [Bool.eq_iff_iff, beq_iff_eq, decide_eq_true_iff]; omega
theorem is1 {n : Nat} (h : n ≤ 1) : (((n : Nat) : Int) == 1) = !decide (n = 0) := by
  rw [Bool.eq_iff_iff, beq_iff_eq, Bool.not_eq_true', decide_eq_false_iff_not]; omega

set_option maxHeartbeats 1000000 in
theorem refDecode_big (l : Int) (x : Nat) (w : World) (hx : x < 18446744073709551616) (h : 512 ≤ wF x) :
    Calls Try.prog 44 #[.int .i64 l, .int .u64 x] w fun e w' => e = .returned (dv badD) ∧ Below w.heap.size w w' := by
  have h' : (512 : Int) ≤ ((wF x : Nat) : Int) := by omega
  clear h
  go_enter Try.func44, Try.ntmps44
  go_wp2_with (go_at_call 56; refine (refF _ _ hx).mono ?_; rintro e w1 ⟨rfl, hw⟩; obtain rfl := hw.symm; clear hw)
  exact bodyPost_ret (v := dv badD) (by simp [results, Try.results44, go_sem, dv, badD]) rfl ⟨rfl, (Below.refl _ _).alloc (Nat.le_refl _) _⟩

theorem BoxW.new (w : World) (d : Dsc) : ∀ o, (w.alloc (.cells #[.int .i64 d.kind, .int .i64 d.frame, .bool d.wr, .bool d.ex, .bool d.sn, .bool d.fo, .int .i64 d.so] 60)).frozen? ⟨w.heap.size, o, none⟩ = false := by
  intro o
  simp
set_option maxRecDepth 100000 in
set_option maxHeartbeats 2000000 in
theorem refDecode_loop (l : Int) (x : Nat) (w : World) (hx : x < 18446744073709551616) (h : wF x < 512) (h0 : 0 ≤ l) (h3 : l ≤ 3) :
    Calls Try.prog 44 #[.int .i64 l, .int .u64 x] w fun e w' => e = .returned (dv (saysD l x)) ∧ Below w.heap.size w w' := by
  have b7 := fun w => bit_any x 7 w hx (by decide) (by decide)
  have b10 := fun w => bit_any x 10 w hx (by decide) (by decide)
  have b52 := fun w => bit_any x 52 w hx (by decide) (by decide)
  have b54 := fun w => bit_any x 54 w hx (by decide) (by decide)
  rw [bit7] at b7
  rw [bit10] at b10
  rw [bit52] at b52
  rw [bit54] at b54
  have t7 := is0 (w7 x)
  have t54 := is0 (w54 x)
  have t10 := is1 (w10_le x)
  have t52 := is1 (w52_le x)
  have hS := wS_lt x
  have cd : ∀ k : Int, candD k x = if k = 0 then nilD else if k = 1 then ⟨1, wF x, false, false, false, false, 0⟩ else ⟨k, wF x, decide (w7 x = 0), decide (w54 x = 0), !decide (w10 x = 0), !decide (w52 x = 0), wS x⟩ := fun k => rfl
  obtain ⟨p7, e7⟩ : ∃ p, p = decide (w7 x = 0) := ⟨_, rfl⟩
  obtain ⟨p54, e54⟩ : ∃ p, p = decide (w54 x = 0) := ⟨_, rfl⟩
  obtain ⟨p10, e10⟩ : ∃ p, p = !decide (w10 x = 0) := ⟨_, rfl⟩
  obtain ⟨p52, e52⟩ : ∃ p, p = !decide (w52 x = 0) := ⟨_, rfl⟩
  rw [← e7] at t7 cd
  rw [← e54] at t54 cd
  rw [← e10] at t10 cd
  rw [← e52] at t52 cd
  obtain ⟨i7, f7⟩ : ∃ i, i = ((w7 x : Nat) : Int) := ⟨_, rfl⟩
  obtain ⟨i54, f54⟩ : ∃ i, i = ((w54 x : Nat) : Int) := ⟨_, rfl⟩
  obtain ⟨i10, f10⟩ : ∃ i, i = ((w10 x : Nat) : Int) := ⟨_, rfl⟩
  obtain ⟨i52, f52⟩ : ∃ i, i = ((w52 x : Nat) : Int) := ⟨_, rfl⟩
  rw [← f7] at t7 b7
  rw [← f54] at t54 b54
  rw [← f10] at t10 b10
  rw [← f52] at t52 b52
  have CD : Hid _ := cd
  have h' : ((wF x : Nat) : Int) < 512 := by omega
  clear h f7 f54 f10 f52 e7 e54 e10 e52 cd
  go_enter Try.func44, Try.ntmps44
  go_wp2_with fail
  refine (refF _ _ hx).mono ?_; rintro e w1 ⟨rfl, hw⟩; obtain rfl := hw.symm; clear hw
  go_wp2_with fail
  refine (b7 _).mono ?_; rintro e w1 ⟨rfl, hw⟩; obtain rfl := hw.symm; clear hw
  go_wp2_with fail
  refine (b54 _).mono ?_; rintro e w1 ⟨rfl, hw⟩; obtain rfl := hw.symm; clear hw
  go_wp2_with fail
  refine (b10 _).mono ?_; rintro e w1 ⟨rfl, hw⟩; obtain rfl := hw.symm; clear hw
  go_wp2_with fail
  refine (b52 _).mono ?_; rintro e w1 ⟨rfl, hw⟩; obtain rfl := hw.symm; clear hw
  go_wp2_with fail
  refine (refS _ _ hx).mono ?_; rintro e w1 ⟨rfl, hw⟩; obtain rfl := hw.symm; clear hw
  go_wp2
  go_loopw [7] (fun i W => ∃ k : Nat, k ≤ 5 ∧ i = .int .i64 k ∧ Below w.heap.size w W ∧ Box W w.heap.size nilD ∧ Box W (w.heap.size + 1) ⟨0, wF x, p7, p54, p10, p52, wS x⟩ ∧ Thaw W w.heap.size ∧ ∀ j : Int, 0 ≤ j → j < k → hitB l j x = false) (fun i _ => 5 - (intOf i).toNat)
  case atStart =>
    refine ⟨0, by decide, rfl, ?_, ?_, ?_, ?_, fun j h1 h2 => by omega⟩
    · exact ((Below.refl _ _).alloc (Nat.le_refl _) _).alloc (by simp) _
    · exact (Box.new w nilD).old _
    · have := Box.new (w.alloc (.cells #[.int .i64 0, .int .i64 0, .bool false, .bool false, .bool false, .bool false, .int .i64 0] 60)) ⟨0, wF x, p7, p54, p10, p52, wS x⟩
      rw [World.size_alloc] at this
      exact this
    · exact (show Thaw (w.alloc _) w.heap.size from ⟨by simp, fun o => BoxW.new w nilD o⟩).old _
  case round =>
    obtain ⟨k, hk, rfl, L, R, A, T, hall⟩ := hrel
    have HA : Hid _ := hall
    clear hall
    by_cases hlt : k < 5
    · have hcs : k = 0 ∨ k = 1 ∨ 2 ≤ k := by omega
      rcases hcs with hk0 | hk1 | hk2
      · subst hk0
        have hcand : candD 0 x = nilD := by rw [CD.out]; rfl
        have hM := refMay_any l nilD
        have hW := fun w h => refWord_any l nilD w h
        have hq := fun h1 h2 => hit_says (l := l) (k := 0) (x := x) (by unfold hitB; rw [hcand, Bool.and_eq_true, decide_eq_true_eq]; exact ⟨h1, h2⟩)
        have hn := fun (h : mayD l nilD = false ∨ wordD nilD ≠ x) => show hitB l 0 x = false by
          unfold hitB; rw [hcand]
          rcases h with h | h
          · rw [h, Bool.false_and]
          · rw [decide_eq_false h, Bool.and_false]
        rw [hcand] at hq
        obtain ⟨m, hm⟩ : ∃ m, m = mayD l nilD := ⟨_, rfl⟩
        obtain ⟨y, hy⟩ : ∃ y, y = wordD nilD := ⟨_, rfl⟩
        rw [← hm] at hM hW hq hn
        rw [← hy] at hW hq hn
        have HQ : Hid _ := hq
        have HN : Hid _ := hn
        clear hm hy hq hn hcand
        unfold dv nilD at hM hW
        simp only at hM hW
        obtain ⟨ka, k0, k1, k2, k3, k4, k5, k6⟩ := A.rules
        go_wp2_with fail
        refine (hM _).mono ?_
        rintro e w2 ⟨rfl, hb⟩
        have L2 := below_new L L.size hb
        have R2 := (R.old _).below hb
        have A2 := (A.old _).below hb
        have T2 := (T.old _).below hb
        have D2 := (Box.new wr nilD).below hb
        clear hb hM ka k0 k1 k2 k3 k4 k5 k6
        cases m
        · have hN := HN.out (Or.inl rfl)
          have HNN : Hid _ := hN
          clear hN hW D2
          go_wp2
          go_roundw
          case rel => exact ⟨0 + 1, by omega, by go_num, L2, R2, A2, T2, fun j h1 h2 => by
            by_cases hj : j < ((0 : Nat) : Int)
            · exact HA.out j h1 hj
            · have : j = 0 := by omega
              rw [this]; exact HNN.out⟩
          case measure => first | (simp [intOf]; done) | (simp [intOf]; omega)
        · obtain ⟨ka, k0, k1, k2, k3, k4, k5, k6⟩ := D2.rules
          go_wp2_with fail
          refine (hW _ (by first | trivial | rfl)).mono ?_
          rintro e w3 ⟨rfl, hb⟩
          have L3 := below_call L2 L2.size hb
          have R3 := R2.below hb
          have A3 := A2.below hb
          have T3 := T2.below hb
          have D3 := D2.below hb
          clear hb hW ka k0 k1 k2 k3 k4 k5 k6
          by_cases hyx : y = x
          · have hQ := HQ.out (by first | trivial | rfl) hyx
            have e1 : ((y : Int) == (x : Int)) = true := by rw [beq_iff_eq, hyx]
            have HR : Hid _ := hQ
            clear hQ hyx
            obtain ⟨ka, k0, k1, k2, k3, k4, k5, k6⟩ := D3.rules
            obtain ⟨-, r0, r1, r2, r3, r4, r5, r6⟩ := R3.rules
            obtain ⟨-, tf⟩ := T3.rules
            unfold nilD at r0 r1 r2 r3 r4 r5 r6
            simp only at r0 r1 r2 r3 r4 r5 r6
            go_wp2
            refine bodyPost_ret (v := dv nilD) ?_ rfl ⟨by rw [HR.out], ?_⟩
            · simp [results, Try.results44, go_sem, dv, r0, r1, r2, r3, r4, r5, r6]
            · repeat' (first | (with_reducible exact L3) | (with_reducible refine Below.setCell ?_ ?_ _) | (with_reducible exact Nat.le_refl _))
          · have hN := HN.out (Or.inr hyx)
            have e1 : ((y : Int) == (x : Int)) = false := by rw [beq_eq_false_iff_ne]; omega
            have HNN : Hid _ := hN
            clear hN hyx D3
            go_wp2
            go_roundw
            case rel => exact ⟨0 + 1, by omega, by go_num, L3, R3, A3, T3, fun j h1 h2 => by
              by_cases hj : j < ((0 : Nat) : Int)
              · exact HA.out j h1 hj
              · have : j = 0 := by omega
                rw [this]; exact HNN.out⟩
            case measure => first | (simp [intOf]; done) | (simp [intOf]; omega)
      · subst hk1
        have hcand : candD 1 x = ⟨1, wF x, false, false, false, false, 0⟩ := by rw [CD.out]; rfl
        have hM := refMay_any l ⟨1, wF x, false, false, false, false, 0⟩
        have hW := fun w h => refWord_any l ⟨1, wF x, false, false, false, false, 0⟩ w h
        have hq := fun h1 h2 => hit_says (l := l) (k := 1) (x := x) (by unfold hitB; rw [hcand, Bool.and_eq_true, decide_eq_true_eq]; exact ⟨h1, h2⟩)
        have hn := fun (h : mayD l ⟨1, wF x, false, false, false, false, 0⟩ = false ∨ wordD ⟨1, wF x, false, false, false, false, 0⟩ ≠ x) => show hitB l 1 x = false by
          unfold hitB; rw [hcand]
          rcases h with h | h
          · rw [h, Bool.false_and]
          · rw [decide_eq_false h, Bool.and_false]
        rw [hcand] at hq
        obtain ⟨m, hm⟩ : ∃ m, m = mayD l ⟨1, wF x, false, false, false, false, 0⟩ := ⟨_, rfl⟩
        obtain ⟨y, hy⟩ : ∃ y, y = wordD ⟨1, wF x, false, false, false, false, 0⟩ := ⟨_, rfl⟩
        rw [← hm] at hM hW hq hn
        rw [← hy] at hW hq hn
        have HQ : Hid _ := hq
        have HN : Hid _ := hn
        clear hm hy hq hn hcand
        unfold dv at hM hW
        simp only at hM hW
        obtain ⟨ka, k0, k1, k2, k3, k4, k5, k6⟩ := A.rules
        go_wp2_with fail
        refine (hM _).mono ?_
        rintro e w2 ⟨rfl, hb⟩
        have L2 := below_new L L.size hb
        have R2 := (R.old _).below hb
        have A2 := (A.old _).below hb
        have T2 := (T.old _).below hb
        have D2 := (Box.new wr ⟨1, wF x, false, false, false, false, 0⟩).below hb
        clear hb hM ka k0 k1 k2 k3 k4 k5 k6
        cases m
        · have hN := HN.out (Or.inl rfl)
          have HNN : Hid _ := hN
          clear hN hW D2
          go_wp2
          go_roundw
          case rel => exact ⟨1 + 1, by omega, by go_num, L2, R2, A2, T2, fun j h1 h2 => by
            by_cases hj : j < ((1 : Nat) : Int)
            · exact HA.out j h1 hj
            · have : j = 1 := by omega
              rw [this]; exact HNN.out⟩
          case measure => first | (simp [intOf]; done) | (simp [intOf]; omega)
        · obtain ⟨ka, k0, k1, k2, k3, k4, k5, k6⟩ := D2.rules
          go_wp2_with fail
          refine (hW _ (by first | trivial | rfl)).mono ?_
          rintro e w3 ⟨rfl, hb⟩
          have L3 := below_call L2 L2.size hb
          have R3 := R2.below hb
          have A3 := A2.below hb
          have T3 := T2.below hb
          have D3 := D2.below hb
          clear hb hW ka k0 k1 k2 k3 k4 k5 k6
          by_cases hyx : y = x
          · have hQ := HQ.out (by first | trivial | rfl) hyx
            have e1 : ((y : Int) == (x : Int)) = true := by rw [beq_iff_eq, hyx]
            have HR : Hid _ := hQ
            clear hQ hyx
            obtain ⟨ka, k0, k1, k2, k3, k4, k5, k6⟩ := D3.rules
            obtain ⟨-, r0, r1, r2, r3, r4, r5, r6⟩ := R3.rules
            obtain ⟨-, tf⟩ := T3.rules
            unfold nilD at r0 r1 r2 r3 r4 r5 r6
            simp only at r0 r1 r2 r3 r4 r5 r6
            go_wp2
            refine bodyPost_ret (v := dv ⟨1, wF x, false, false, false, false, 0⟩) ?_ rfl ⟨by rw [HR.out], ?_⟩
            · simp [results, Try.results44, go_sem, dv, r0, r1, r2, r3, r4, r5, r6]
            · repeat' (first | (with_reducible exact L3) | (with_reducible refine Below.setCell ?_ ?_ _) | (with_reducible exact Nat.le_refl _))
          · have hN := HN.out (Or.inr hyx)
            have e1 : ((y : Int) == (x : Int)) = false := by rw [beq_eq_false_iff_ne]; omega
            have HNN : Hid _ := hN
            clear hN hyx D3
            go_wp2
            go_roundw
            case rel => exact ⟨1 + 1, by omega, by go_num, L3, R3, A3, T3, fun j h1 h2 => by
              by_cases hj : j < ((1 : Nat) : Int)
              · exact HA.out j h1 hj
              · have : j = 1 := by omega
                rw [this]; exact HNN.out⟩
            case measure => first | (simp [intOf]; done) | (simp [intOf]; omega)
      · have hz0 : ((k : Int) == 0) = false := by rw [beq_eq_false_iff_ne]; omega
        have hz1 : ((k : Int) == 1) = false := by rw [beq_eq_false_iff_ne]; omega
        have hcand : candD (k : Int) x = ⟨k, wF x, p7, p54, p10, p52, wS x⟩ := by rw [CD.out, if_neg (by omega), if_neg (by omega)]
        have hM := refMay_any l ⟨k, wF x, p7, p54, p10, p52, wS x⟩
        have hW := fun w h => refWord_any l ⟨k, wF x, p7, p54, p10, p52, wS x⟩ w h
        have hq := fun h1 h2 => hit_says (l := l) (k := (k : Int)) (x := x) (by unfold hitB; rw [hcand, Bool.and_eq_true, decide_eq_true_eq]; exact ⟨h1, h2⟩)
        have hn := fun (h : mayD l ⟨k, wF x, p7, p54, p10, p52, wS x⟩ = false ∨ wordD ⟨k, wF x, p7, p54, p10, p52, wS x⟩ ≠ x) => show hitB l (k : Int) x = false by
          unfold hitB; rw [hcand]
          rcases h with h | h
          · rw [h, Bool.false_and]
          · rw [decide_eq_false h, Bool.and_false]
        rw [hcand] at hq
        obtain ⟨m, hm⟩ : ∃ m, m = mayD l ⟨k, wF x, p7, p54, p10, p52, wS x⟩ := ⟨_, rfl⟩
        obtain ⟨y, hy⟩ : ∃ y, y = wordD ⟨k, wF x, p7, p54, p10, p52, wS x⟩ := ⟨_, rfl⟩
        rw [← hm] at hM hW hq hn
        rw [← hy] at hW hq hn
        have HQ : Hid _ := hq
        have HN : Hid _ := hn
        clear hm hy hq hn hcand
        unfold dv at hM hW
        simp only at hM hW
        obtain ⟨ka, k0, k1, k2, k3, k4, k5, k6⟩ := A.rules
        go_wp2_with fail
        refine (hM _).mono ?_
        rintro e w2 ⟨rfl, hb⟩
        have L2 := below_new L L.size hb
        have R2 := (R.old _).below hb
        have A2 := (A.old _).below hb
        have T2 := (T.old _).below hb
        have D2 := (Box.new wr ⟨k, wF x, p7, p54, p10, p52, wS x⟩).below hb
        clear hb hM ka k0 k1 k2 k3 k4 k5 k6
        cases m
        · have hN := HN.out (Or.inl rfl)
          have HNN : Hid _ := hN
          clear hN hW D2
          go_wp2
          go_roundw
          case rel => exact ⟨k + 1, by omega, by go_num, L2, R2, A2, T2, fun j h1 h2 => by
            by_cases hj : j < (k : Int)
            · exact HA.out j h1 hj
            · have : j = (k : Int) := by omega
              rw [this]; exact HNN.out⟩
          case measure => first | (simp [intOf]; done) | (simp [intOf]; omega)
        · obtain ⟨ka, k0, k1, k2, k3, k4, k5, k6⟩ := D2.rules
          go_wp2_with fail
          refine (hW _ (by first | trivial | rfl)).mono ?_
          rintro e w3 ⟨rfl, hb⟩
          have L3 := below_call L2 L2.size hb
          have R3 := R2.below hb
          have A3 := A2.below hb
          have T3 := T2.below hb
          have D3 := D2.below hb
          clear hb hW ka k0 k1 k2 k3 k4 k5 k6
          by_cases hyx : y = x
          · have hQ := HQ.out (by first | trivial | rfl) hyx
            have e1 : ((y : Int) == (x : Int)) = true := by rw [beq_iff_eq, hyx]
            have HR : Hid _ := hQ
            clear hQ hyx
            obtain ⟨ka, k0, k1, k2, k3, k4, k5, k6⟩ := D3.rules
            obtain ⟨-, r0, r1, r2, r3, r4, r5, r6⟩ := R3.rules
            obtain ⟨-, tf⟩ := T3.rules
            unfold nilD at r0 r1 r2 r3 r4 r5 r6
            simp only at r0 r1 r2 r3 r4 r5 r6
            go_wp2
            refine bodyPost_ret (v := dv ⟨k, wF x, p7, p54, p10, p52, wS x⟩) ?_ rfl ⟨by rw [HR.out], ?_⟩
            · simp [results, Try.results44, go_sem, dv, r0, r1, r2, r3, r4, r5, r6]
            · repeat' (first | (with_reducible exact L3) | (with_reducible refine Below.setCell ?_ ?_ _) | (with_reducible exact Nat.le_refl _))
          · have hN := HN.out (Or.inr hyx)
            have e1 : ((y : Int) == (x : Int)) = false := by rw [beq_eq_false_iff_ne]; omega
            have HNN : Hid _ := hN
            clear hN hyx D3
            go_wp2
            go_roundw
            case rel => exact ⟨k + 1, by omega, by go_num, L3, R3, A3, T3, fun j h1 h2 => by
              by_cases hj : j < (k : Int)
              · exact HA.out j h1 hj
              · have : j = (k : Int) := by omega
                rw [this]; exact HNN.out⟩
            case measure => first | (simp [intOf]; done) | (simp [intOf]; omega)

    · have : k = 5 := by omega
      subst this
      have hQ := none_says (l := l) (x := x) h0 h3 (fun k h1 h2 => HA.out k h1 (by omega))
      have HR : Hid _ := hQ
      clear hQ
      obtain ⟨-, r0, r1, r2, r3, r4, r5, r6⟩ := R.rules
      obtain ⟨-, tf⟩ := T.rules
      unfold nilD at r0 r1 r2 r3 r4 r5 r6
      simp only at r0 r1 r2 r3 r4 r5 r6
      go_wp2
      refine bodyPost_ret (v := dv badD) ?_ rfl ⟨by rw [HR.out], ?_⟩
      · simp [results, Try.results44, go_sem, dv, badD, r0, r1, r2, r3, r4, r5, r6]
      · repeat' (first | (with_reducible exact L) | (with_reducible refine Below.setCell ?_ ?_ _) | (with_reducible exact Nat.le_refl _))
theorem Box.drew {w : World} {b : Nat} {d : Dsc} (h : Box w b d) : Box w.drew b d := h

theorem refDecode_any (l : Int) (x : Nat) (w : World) (hx : x < 18446744073709551616) (hl : lvlB l = true) :
    Calls Try.prog 44 #[.int .i64 l, .int .u64 x] w fun e w' => e = .returned (dv (saysD l x)) ∧ Below w.heap.size w w' := by
  obtain ⟨h0, h3⟩ := lvlB_true hl
  by_cases h : wF x < 512
  · exact refDecode_loop l x w hx h h0 h3
  · rw [says_big (by omega)]
    exact refDecode_big l x w hx (by omega)
end Go.Proofs.Yteoblaopbhdneaa
