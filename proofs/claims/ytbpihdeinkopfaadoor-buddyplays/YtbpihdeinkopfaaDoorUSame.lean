/- same: a store's blocks are the document's. -/
import Derived.Test.YtbpihdeinkopfaaDoorUMod4
import Derived.Test.YtbpihdeinkopfaaDoorUOw
namespace Go.Proofs.YtbpihdeinkopfaaDoor
open Go.RowKit

theorem neg_free (L : List Bk) : freeB L (-1) = false := by
  unfold freeB
  rw [decide_eq_false (by omega), Bool.false_and]
theorem end_free {n : Nat} {L : List Bk} (ho : Okl n L) : freeB L n = false := by
  unfold freeB
  rw [Int.toNat_natCast, (covB_false L n).2 ?_, Bool.and_false]
  rintro ⟨b, hb, h1, h2⟩
  have := ho.top b hb
  omega
theorem nat_free (L : List Bk) (x : Nat) : freeB L x = covB L x := by
  unfold freeB
  rw [decide_eq_true (by omega), Bool.true_and, Int.toNat_natCast]

set_option maxRecDepth 100000 in
set_option maxHeartbeats 8000000 in
theorem same_any {F : Nat → Prop} {B : Nat} {w : World} {p n : Nat} {v vm : Value} {L : List Bk} {M : List Bool} (hs : Sto F w p n v L) (ho : Okl n L) (hr : Row rO B w vm M) (hn : M.length = n) (hcv : ∀ x, covB L x = M.getD x false) :
    Calls Tryd.prog 10 #[.pointer (some ⟨p, 0, none⟩), vm] w fun e w' => e = .returned (.bool true) ∧ Below w.heap.size w w' := by
  have hF := free_any hs ho
  have hG := fun w (hr : Row rO B w vm M) => refFree_any hr ho hn hcv
  have hlen := ho.len
  have hln : M.length ≤ 512 := by have := ho.max; omega
  obtain ⟨am, cm, rfl⟩ := hr.form
  have HS : Hid (Sto F w p n v L ∧ Okl n L) := ⟨hs, ho⟩
  have HR : Hid (Row rO B w (.slice am M.length cm) M) := hr
  have HC : Hid (∀ x, covB L x = M.getD x false) := hcv
  have HSZ : Hid (size L = cnt (covB L) M.length) := by rw [hn]; exact size_cnt L n ho.good.sorted ho.top
  have HEF : Hid (freeB L M.length = false) := by rw [hn]; exact end_free ho
  clear hs ho hr hcv hn
  go_enter Tryd.func10, Tryd.ntmps10
  go_wp2_with fail
  refine hF.mono ?_
  rintro e w1 ⟨vl, rfl, R1, hb1⟩
  have hG1 := hG w1 (HR.out.below hb1)
  obtain ⟨al, cl, rfl⟩ := R1.form
  clear hF hG
  go_wp2_with fail
  refine hG1.mono ?_
  rintro e w2 ⟨vk, rfl, R2, hb2⟩
  obtain ⟨ak, ck, rfl⟩ := R2.form
  have HR2 : Hid (Row rB w.heap.size w2 (.slice al L.length cl) L ∧ Row rB w1.heap.size w2 (.slice ak L.length ck) L ∧ Below w.heap.size w w2) := ⟨R1.below hb2, R2, below_call' hb1 hb2⟩
  clear hG1 R1 R2 hb1 hb2
  go_wp2_with fail
  go_loopw [7] (fun iv W => ∃ j : Nat, j ≤ L.length ∧ iv = .int .i64 j ∧ Hid (Below w2.heap.size w2 W)) (fun iv _ => L.length - (intOf iv).toNat)
  case atStart => exact ⟨0, Nat.zero_le _, rfl, Below.refl _ _⟩
  case round =>
    obtain ⟨j, hj, rfl, HJ⟩ := hrel
    by_cases hjl : j < L.length
    · have hjz : (j : Int) < (L.length : Int) := by omega
      obtain ⟨ga, rfl, _, _, hga, _, _, ata⟩ := (HR2.out.1.below HJ.out).at hjl
      obtain ⟨gb, rfl, _, _, hgb, _, _, atb⟩ := (HR2.out.2.1.below HJ.out).at hjl
      obtain ⟨x0, x1⟩ := rB.at ata
      obtain ⟨y0, y1⟩ := rB.at atb
      simp only [show rB.n = 2 from rfl, show rB.zero = (0, 0) from rfl] at x0 x1 y0 y1
      have hne := fun w => neq_run (L.getD j (0, 0)) (L.getD j (0, 0)) w
      rw [show (!decide (L.getD j (0, 0) = L.getD j (0, 0))) = false by simp] at hne
      unfold bval at hne
      generalize L.getD j (0, 0) = bj at *
      clear ata atb
      go_wp2
      go_quiet (fail)
      go_wp2
      go_roundw
      case rel => exact ⟨j + 1, by omega, by go_num, below_drewN HJ.out _⟩
      case measure => simp only [intOf]; omega
    · obtain rfl : j = L.length := by omega
      have HB3 : Hid (Below w.heap.size w wr) := below_call' HR2.out.2.2 HJ.out
      clear HR2 HJ
      go_wp2_with fail
      go_loopw [8, 9] (fun nv iv W => ∃ i m : Nat, i ≤ M.length ∧ m ≤ i ∧ iv = .int .i64 i ∧ nv = .int .i64 m ∧ Hid (m = cnt (covB L) i) ∧ Hid (Below w.heap.size w W)) (fun _ iv _ => M.length - (intOf iv).toNat)
      case atStart => exact ⟨0, 0, Nat.zero_le _, Nat.le_refl _, rfl, rfl, rfl, HB3⟩
      case round =>
        obtain ⟨i, m, hi, hmi, rfl, rfl, HI, HB⟩ := hrel
        clear HB3
        by_cases hil : i < M.length
        · have hiz : (i : Int) < (M.length : Int) := by omega
          obtain ⟨g, rfl, _, _, hg, _, _, hat⟩ := (HR.out.below HB.out).at hil
          have c0 := rO.at hat
          simp only [show rO.n = 1 from rfl, show rO.zero = false from rfl, Nat.mul_one] at c0
          have hfr := isFree_any ((HS.out.1.below HB.out).below (Below.refl _ _).drew) HS.out.2 (i : Int)
          have hcb := HC.out i
          rw [nat_free, hcb] at hfr
          have hct : cnt (covB L) (i + 1) = cnt (covB L) i + if covB L i then 1 else 0 := rfl
          rw [hcb, ← HI.out] at hct
          clear hat
          cases hm : M.getD i false with
          | true =>
            rw [hm] at c0 hfr hct
            have HI2 : Hid (m + 1 = cnt (covB L) (i + 1)) := by rw [hct]; rfl
            clear hct hm hcb HI
            go_wp2
            go_region_held3 (fun w' => w'.cell? ⟨g, i, none⟩ = some (.bool true)) (go_keep) (first | (go_at_call 24; refine hfr.mono ?_; rintro e w4 ⟨rfl, hb4⟩; have hx4 : ∀ o, w4.cell? ⟨g, o, none⟩ = wr.cell? ⟨g, o, none⟩ := (fun o => (bcell hb4).1 g o hg)))
            have HB4 : Hid (Below w.heap.size w w4) := below_call' HB.out ((Below.refl _ _).drew.trans hb4)
            clear hx4 hb4 hfr HB c0
            go_wp2
            go_roundw
            case rel => exact ⟨i + 1, m + 1, by omega, by omega, by go_num, by go_num, HI2, HB4⟩
            case measure => simp only [intOf]; omega
          | false =>
            rw [hm] at c0 hfr hct
            have HI2 : Hid (m = cnt (covB L) (i + 1)) := by rw [hct]; rfl
            clear hct hm hcb HI
            go_wp2
            go_region_held3 (fun w' => w'.cell? ⟨g, i, none⟩ = some (.bool false)) (go_keep) (first | (go_at_call 24; refine hfr.mono ?_; rintro e w4 ⟨rfl, hb4⟩; have hx4 : ∀ o, w4.cell? ⟨g, o, none⟩ = wr.cell? ⟨g, o, none⟩ := (fun o => (bcell hb4).1 g o hg)))
            have HB4 : Hid (Below w.heap.size w w4) := below_call' HB.out ((Below.refl _ _).drew.trans hb4)
            clear hx4 hb4 hfr HB c0
            go_wp2
            go_roundw
            case rel => exact ⟨i + 1, m, by omega, by omega, by go_num, rfl, HI2, HB4⟩
            case measure => simp only [intOf]; omega
        · obtain rfl : i = M.length := by omega
          have hC := count_any (HS.out.1.below HB.out) HS.out.2
          rw [HSZ.out, ← HI.out] at hC
          have h1 := fun w' (h : Below wr.heap.size wr w') => isFree_any ((HS.out.1.below HB.out).below h) HS.out.2 (-1)
          rw [neg_free] at h1
          have h2 := fun w' (h : Below wr.heap.size wr w') => isFree_any ((HS.out.1.below HB.out).below h) HS.out.2 (M.length : Int)
          rw [HEF.out] at h2
          clear HI
          go_wp2_with fail
          refine hC.mono ?_
          rintro e w5 ⟨rfl, hb5⟩
          have h1' := h1 w5 hb5
          clear hC h1
          go_wp2_with fail
          refine h1'.mono ?_
          rintro e w6 ⟨rfl, hb6⟩
          have h2' := h2 w6 (below_call' hb5 hb6)
          clear h1' h2
          go_wp2_with fail
          refine h2'.mono ?_
          rintro e w7 ⟨rfl, hb7⟩
          have HB7 : Hid (Below w.heap.size w w7) := below_call' HB.out (below_call' (below_call' hb5 hb6) hb7)
          clear h2' hb5 hb6 hb7
          go_wp2
          go_ret
          exact ⟨rfl, HB7.out⟩
end Go.Proofs.YtbpihdeinkopfaaDoor
