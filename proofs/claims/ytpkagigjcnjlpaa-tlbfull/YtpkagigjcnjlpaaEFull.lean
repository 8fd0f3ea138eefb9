/- TlbFull: the walk. -/
import Derived.Test.YtpkagigjcnjlpaaEFills
import Derived.Test.YtpkagigjcnjlpaaEPick
namespace Go.Proofs.Ytpkagigjcnjlpaa
open Go.RowKit

def En (i : Nat) : Ent := ⟨0, i, 0, i, false, false⟩
theorem En_may {i : Nat} (h : i ≤ 4095) : mayB (En i) = true := by
  have h1 : pw (En i).order = 1 := rfl
  simp only [mayB, decide_eq_true_eq]
  refine ⟨by show (0 : Int) ≤ 0; omega, by show (0 : Int) ≤ 255; omega, by show (0 : Int) ≤ i; omega, by show (i : Int) ≤ 4095; omega, by show (0 : Int) ≤ i; omega, Or.inl rfl, ?_⟩
  rw [h1]
  omega
theorem En_ok {i : Nat} (h : i ≤ 4095) : (En i).ok := by
  unfold Ent.ok En
  simp only
  omega
theorem En_ne {i j : Nat} (h : i ≠ j) : eqE (En i) (En j) = false := eqE_no fun e => by
  have : ((i : Int) = j) := congrArg Ent.first e
  omega
theorem En_clash {i j : Nat} (h : i ≠ j) : clashB (En i) (En j) = false := by
  unfold clashB
  rw [Bool.and_eq_false_iff]
  right
  rw [Bool.or_eq_false_iff, isB_no, isB_no]
  have h1 : pw (En i).order = 1 := rfl
  have h2 : pw (En j).order = 1 := rfl
  rw [h1, h2]
  simp only [En]
  omega
def seg (n : Nat) : List Ent := (List.range' (n - 64) (n - (n - 64))).map En
theorem seg_len (n : Nat) : (seg n).length = n - (n - 64) := by simp [seg]
theorem seg_mem {n : Nat} {x : Ent} (h : x ∈ seg n) : ∃ i, i < n ∧ x = En i := by
  unfold seg at h
  obtain ⟨i, hi, rfl⟩ := List.mem_map.1 h
  rw [List.mem_range'_1] at hi
  exact ⟨i, by omega, rfl⟩
theorem seg_cut (n : Nat) : cut64 (seg n) ++ [En n] = seg (n + 1) := by
  unfold cut64
  rw [seg_len]
  by_cases h : n < 64
  · rw [if_neg (by omega)]
    unfold seg
    rw [show n - 64 = 0 by omega, show n + 1 - 64 = 0 by omega, Nat.sub_zero, Nat.sub_zero, List.range'_concat, List.map_append]
    simp
  · obtain ⟨a, rfl⟩ : ∃ a, n = a + 64 := ⟨n - 64, by omega⟩
    rw [if_pos (by omega)]
    unfold seg without
    have e1 : List.range' a 64 = a :: List.range' (a + 1) 63 := List.range'_succ
    have e2 : List.range' (a + 1) 64 = List.range' (a + 1) 63 ++ [a + 1 + 1 * 63] := List.range'_concat
    rw [show a + 64 - 64 = a by omega, show a + 64 - a = 64 by omega, show a + 64 + 1 - 64 = a + 1 by omega, show a + 64 + 1 - (a + 1) = 64 by omega, e1, e2, List.map_cons, List.map_append, show a + 1 + 1 * 63 = a + 64 by omega]
    rfl
theorem seg_has (n m : Nat) (h : n ≤ m) : hasB (seg n) (En m) = false := by
  unfold hasB
  rw [List.any_eq_false]
  intro y hy
  obtain ⟨i, hi, rfl⟩ := seg_mem hy
  rw [En_ne (by omega)]
  simp
theorem cut_mem {l : List Ent} {x : Ent} (h : x ∈ cut64 l) : x ∈ l := by
  unfold cut64 at h
  split at h
  · exact without_mem h
  · exact h
theorem seg_clash (n : Nat) : clashes (cut64 (seg n)) (En n) = false := by
  unfold clashes
  rw [List.any_eq_false]
  intro y hy
  obtain ⟨i, hi, rfl⟩ := seg_mem (cut_mem hy)
  rw [En_clash (by omega)]
  simp
theorem full_fN : ∀ n, n ≤ 4000 → fN En n = (seg n, false)
  | 0, _ => rfl
  | n + 1, h => by
    have ih := full_fN n (by omega)
    show (fL (fN En n).1 (En n), fK (fN En n).1 (fN En n).2 (En n)) = _
    rw [ih]
    unfold fL fK fillL fillK
    rw [if_pos (En_may (by omega)), if_pos (En_may (by omega)), seg_has n n (Nat.le_refl _)]
    simp only [Bool.false_eq_true, if_false]
    rw [seg_cut, seg_clash]
    rfl
theorem seg_in {n m : Nat} (h : n - 64 ≤ m) (h' : m < n) : hasB (seg n) (En m) = true := by
  unfold hasB
  rw [List.any_eq_true]
  refine ⟨En m, ?_, eqE_self _⟩
  unfold seg
  exact List.mem_map.2 ⟨m, by rw [List.mem_range'_1]; omega, rfl⟩
theorem full_again {n : Nat} (h1 : 1 ≤ n) (h : n ≤ 4000) : fL (seg n) (En (n - 1)) = seg n ∧ fK (seg n) false (En (n - 1)) = false := by
  unfold fL fK fillL fillK
  rw [if_pos (En_may (by omega)), if_pos (En_may (by omega)), seg_in (by omega) (by omega)]
  exact ⟨rfl, rfl⟩
theorem seg_head {n : Nat} (h : 1 ≤ n) : (seg n).getD 0 Ent.zero = En (n - 64) := by
  unfold seg
  obtain ⟨m, hm⟩ : ∃ m, n - (n - 64) = m + 1 := ⟨n - (n - 64) - 1, by omega⟩
  rw [hm, List.range'_succ]
  rfl

set_option maxRecDepth 100000 in
set_option maxHeartbeats 4000000 in
theorem walk_tlbFull (n0 : Int) (again : Bool) (w : World) (h0 : -9223372036854775808 ≤ n0 ∧ n0 ≤ 9223372036854775807) :
    Calls Try.prog 6 #[.int .i64 n0, .bool again] w fun e w' => e = .returned (.bool true) ∧ Below w.heap.size w w' := by
  have hP := fun w => pick_any n0 10 w h0.1 h0.2 (by omega) (by omega)
  have hr := pickN_lt n0 10 (by omega)
  generalize pickN n0 10 = r at *
  clear h0
  go_enter Try.func6, Try.ntmps6
  go_wp2_with fail
  refine (up_any _).mono ?_
  rintro e w1 ⟨rfl, L1⟩
  go_wp2_with fail
  refine (new_any _).mono ?_
  rintro e w2 ⟨rfl, b2, hb⟩
  have L2 := below_call' L1 hb
  have H2 : Hid (Buf w.heap.size w2 w1.heap.size (.slice none 0 0) [] false ∧ Below w.heap.size w w2) := ⟨b2.lower L1.size, L2⟩
  clear b2 hb L2 L1
  generalize w1.heap.size = p at *
  go_wp2_with fail
  refine (hP _).mono ?_
  rintro e w3 ⟨rfl, hw⟩
  obtain rfl := hw.symm
  clear hw hP
  obtain ⟨n, hn⟩ : ∃ n : Nat, (60 : Int) + (r : Int) = n := ⟨60 + r, by omega⟩
  have hn1 : 1 ≤ n ∧ n ≤ 69 := by omega
  clear hr
  go_wp2_with fail
  go_loopw [7, 8] (fun i _ W => ∃ j : Nat, j ≤ n ∧ i = .int .i64 j ∧ Hid (∃ v, Buf w.heap.size W p v (seg j) false ∧ Below w.heap.size w W)) (fun i _ _ => n - (intOf i).toNat)
  case atStart => exact ⟨0, Nat.zero_le _, rfl, _, H2.out⟩
  case round =>
    obtain ⟨j, hj, rfl, HB⟩ := hrel
    clear H2
    by_cases hlt : j < n
    · have hltz : (j : Int) < (n : Int) := by omega
      obtain ⟨v, b, L⟩ := HB.out
      have hF := fill_any b L.size (En j) (En_ok (by omega))
      rw [show fR (En j) = .nilIface by unfold fR; rw [if_pos (En_may (by omega))]] at hF
      have HS : Hid (Buf w.heap.size wr p v (seg j) false ∧ Below w.heap.size w wr ∧ (fL (seg j) (En j) = seg (j + 1) ∧ fK (seg j) false (En j) = false)) := by
        refine ⟨b, L, ?_⟩
        have e := full_fN (j + 1) (by omega)
        have e' : (fL (fN En j).1 (En j), fK (fN En j).1 (fN En j).2 (En j)) = (seg (j + 1), false) := e
        rw [full_fN j (by omega)] at e'
        exact ⟨congrArg Prod.fst e', congrArg Prod.snd e'⟩
      clear b L HB
      unfold ev En at hF
      simp only at hF
      go_wp2_with fail
      refine hF.mono ?_
      rintro e w3 ⟨rfl, v3, b3, S3⟩
      have H3 : Hid (∃ v, Buf w.heap.size w3 p v (seg (j + 1)) false ∧ Below w.heap.size w w3) := by
        obtain ⟨h1, h2, h3, h4⟩ := HS.out
        refine ⟨v3, ?_, h2.trans (S3.below h1 h2.size)⟩
        have b3' : Buf w.heap.size w3 p v3 (fL (seg j) (En j)) (fK (seg j) false (En j)) := b3
        rw [h3, h4] at b3'
        exact b3'
      clear b3 S3 HS hF
      go_wp2
      go_roundw
      case rel => exact ⟨j + 1, by omega, by go_num, H3⟩
      case measure => simp [intOf]; omega
    · obtain rfl : j = n := by omega
      have hltz : ¬ (j : Int) < (j : Int) := by omega
      obtain ⟨v, b, L⟩ := HB.out
      have hF := fill_any b L.size (En (j - 1)) (En_ok (by omega))
      have hAg := full_again hn1.1 (show j ≤ 4000 by omega)
      rw [hAg.1, hAg.2] at hF
      have hcast : ((j - 1 : Nat) : Int) = (j : Int) - 1 := by omega
      unfold ev En at hF
      simp only [hcast] at hF
      have HS : Hid (Buf w.heap.size wr p v (seg j) false ∧ Below w.heap.size w wr) := ⟨b, L⟩
      have hlen := seg_len j
      have hhd := seg_head hn1.1
      have hE := entries_any b
      have HHD : Hid ((seg j).getD 0 Ent.zero = En (j - 64)) := hhd
      clear b L HB hAg hhd
      cases again
      · go_wp2_with fail
        refine hE.mono ?_
        rintro e w4 ⟨v4, rfl, O4, hb⟩
        obtain ⟨b, L⟩ := HS.out
        have L4 := below_call L L.size hb
        have hB := broken_any (b.below hb)
        obtain ⟨a4, c4, rfl⟩ := O4.form
        obtain ⟨g, rfl, -, x0, x1, x2, x3, x4, x5⟩ := O4.at (show 0 < (seg j).length by rw [hlen]; omega)
        rw [HHD.out] at x1
        have hj0 : (0 : Int) < ((seg j).length : Int) := by rw [hlen]; omega
        have HL : Hid (Below w.heap.size w w4) := L4
        have x1' : w4.cell? ⟨g, 1, none⟩ = some (.int .i64 ((j - 64 : Nat) : Int)) := by simpa [En] using x1
        clear b L L4 hb O4 x0 x1 x2 x3 x4 x5
        rw [hlen] at *
        by_cases h64 : 64 < j
        · have h64z : (64 : Int) < (j : Int) := by omega
          rw [show ((j - 64 : Nat) : Int) = (j : Int) - 64 by omega] at x1'
          have hl2 : ((j - (j - 64) : Nat) : Int) = (j : Int) - ((j : Int) - 64) := by omega
          go_wp2_with (go_at_call 28; refine hB.mono ?_; rintro e w5 ⟨rfl, hw⟩; obtain rfl := hw.symm; clear hw)
          go_ret
          exact ⟨ret_bool (by simp), HL.out⟩
        · have h64z : ¬ (64 : Int) < (j : Int) := by omega
          rw [show ((j - 64 : Nat) : Int) = 0 by omega] at x1'
          have hl2 : ((j - (j - 64) : Nat) : Int) = (j : Int) := by omega
          go_wp2_with (go_at_call 28; refine hB.mono ?_; rintro e w5 ⟨rfl, hw⟩; obtain rfl := hw.symm; clear hw)
          go_ret
          exact ⟨ret_bool (by simp), HL.out⟩
      · go_wp2_with fail
        refine hF.mono ?_
        rintro e w3 ⟨rfl, v3, b3, S3⟩
        have L3 := HS.out.2.trans (S3.below HS.out.1 HS.out.2.size)
        have hE3 := entries_any b3
        have HS3 : Hid (Buf w.heap.size w3 p v3 (seg j) false ∧ Below w.heap.size w w3) := ⟨b3, L3⟩
        clear b3 S3 L3 hE hF HS
        go_wp2_with fail
        refine hE3.mono ?_
        rintro e w4 ⟨v4, rfl, O4, hb⟩
        obtain ⟨b, L⟩ := HS3.out
        have L4 := below_call L L.size hb
        have hB := broken_any (b.below hb)
        obtain ⟨a4, c4, rfl⟩ := O4.form
        obtain ⟨g, rfl, -, x0, x1, x2, x3, x4, x5⟩ := O4.at (show 0 < (seg j).length by rw [hlen]; omega)
        rw [HHD.out] at x1
        have hj0 : (0 : Int) < ((seg j).length : Int) := by rw [hlen]; omega
        have HL : Hid (Below w.heap.size w w4) := L4
        have x1' : w4.cell? ⟨g, 1, none⟩ = some (.int .i64 ((j - 64 : Nat) : Int)) := by simpa [En] using x1
        clear b L L4 hb O4 x0 x1 x2 x3 x4 x5
        rw [hlen] at *
        by_cases h64 : 64 < j
        · have h64z : (64 : Int) < (j : Int) := by omega
          rw [show ((j - 64 : Nat) : Int) = (j : Int) - 64 by omega] at x1'
          have hl2 : ((j - (j - 64) : Nat) : Int) = (j : Int) - ((j : Int) - 64) := by omega
          go_wp2_with (go_at_call 28; refine hB.mono ?_; rintro e w5 ⟨rfl, hw⟩; obtain rfl := hw.symm; clear hw)
          go_ret
          exact ⟨ret_bool (by simp), HL.out⟩
        · have h64z : ¬ (64 : Int) < (j : Int) := by omega
          rw [show ((j - 64 : Nat) : Int) = 0 by omega] at x1'
          have hl2 : ((j - (j - 64) : Nat) : Int) = (j : Int) := by omega
          go_wp2_with (go_at_call 28; refine hB.mono ?_; rintro e w5 ⟨rfl, hw⟩; obtain rfl := hw.symm; clear hw)
          go_ret
          exact ⟨ret_bool (by simp), HL.out⟩
end Go.Proofs.Ytpkagigjcnjlpaa
