/- Whether areas leave no page out; below, above. -/
import Derived.Test.YtoimmapdkapheaaAWit
namespace Go.Proofs.Ytoimmapdkapheaa
set_option maxRecDepth 4000
open Go.RowKit

theorem below_any {w : World} {ao : Option Addr} {c : Nat} {L : List AAr} (hs : Sn rAAr w ao L) (hm : L.length ≤ 1000) (t : Int) :
    Calls Try.prog 60 #[.slice ao L.length c, .int .i64 t] w fun e w' => ∃ v, e = .returned v ∧ Row rAAr w.heap.size w' v (clipA 0 t L) ∧ Below w.heap.size w w' := by
  have hW := within_any (c := c) hs hm 0 t
  go_enter Try.func60, Try.ntmps60
  go_wp2_with fail
  refine hW.mono ?_
  rintro e w1 ⟨v, rfl, hr, hb⟩
  have HR : Hid (Row rAAr w.heap.size w1 v (clipA 0 t L) ∧ Below w.heap.size w w1) := ⟨hr, hb⟩
  clear hr hb hW
  go_wp2
  go_ret
  exact ⟨v, rfl, HR.out⟩
theorem above_any {w : World} {ao : Option Addr} {c : Nat} {L : List AAr} (hs : Sn rAAr w ao L) (hm : L.length ≤ 1000) (t : Int) :
    Calls Try.prog 61 #[.slice ao L.length c, .int .i64 t] w fun e w' => ∃ v, e = .returned v ∧ Row rAAr w.heap.size w' v (clipA t 4096 L) ∧ Below w.heap.size w w' := by
  have hW := within_any (c := c) hs hm t 4096
  go_enter Try.func61, Try.ntmps61
  go_wp2_with fail
  refine hW.mono ?_
  rintro e w1 ⟨v, rfl, hr, hb⟩
  have HR : Hid (Row rAAr w.heap.size w1 v (clipA t 4096 L) ∧ Below w.heap.size w w1) := ⟨hr, hb⟩
  clear hr hb hW
  go_wp2
  go_ret
  exact ⟨v, rfl, HR.out⟩

theorem cov_drop {f t : Int} {L : List AAr} {k : Nat} (h : k < L.length) : covA f t (L.drop k) = if (L.getD k AAr.zero).a = f then covA (L.getD k AAr.zero).b t (L.drop (k + 1)) else false := by
  rw [drop_cons L h]
  rfl
set_option maxRecDepth 100000 in
set_option maxHeartbeats 4000000 in
theorem covers_any {w : World} {ao : Option Addr} {c : Nat} {L : List AAr} (hs : Sn rAAr w ao L) (hm : L.length ≤ 1000) (f t : Int) :
    Calls Try.prog 70 #[.slice ao L.length c, .int .i64 f, .int .i64 t] w fun e w' => e = .returned (.bool (covA f t L)) ∧ Below w.heap.size w w' := by
  have HS : Hid (Sn rAAr w ao L) := hs
  clear hs
  go_enter Try.func70, Try.ntmps70
  go_wp2
  go_loopw [1, 11] (fun fv iv W => ∃ (k : Nat) (x : Int), k ≤ L.length ∧ iv = .int .i64 k ∧ fv = .int .i64 x ∧ Hid (covA f t L = covA x t (L.drop k)) ∧ Hid (Below w.heap.size w W)) (fun _ iv _ => L.length - (intOf iv).toNat)
  case atStart => exact ⟨0, f, Nat.zero_le _, rfl, rfl, rfl, Below.refl _ _⟩
  case round =>
    obtain ⟨k, x, hk, rfl, rfl, HF, HB⟩ := hrel
    by_cases hlt : k < L.length
    · have hltz : (k : Int) < (L.length : Int) := by omega
      have hst := cov_drop (f := x) (t := t) hlt
      rw [← HF.out] at hst
      have HBA : Hid (Below w.heap.size w (wr.alloc (.cells (L.getD k AAr.zero).arr 55))) := HB.out.alloc HB.out.size _
      obtain ⟨g, off, rfl, hg, c0, c1, c2, c3, c4⟩ := AAr.sn (HS.out.below HB.out) hlt
      generalize L.getD k AAr.zero = d at *
      clear HB HF
      obtain ⟨da, db, dw, dx, dh⟩ := d
      unfold AAr.arr at *
      simp only at *
      by_cases t1 : da = x
      · rw [if_pos t1] at hst
        subst t1
        have HR : Hid (covA f t L = covA db t (L.drop (k + 1))) := hst
        clear hst
        go_wp2
        go_roundw
        case rel => exact ⟨k + 1, db, by omega, by go_num, rfl, HR, HBA⟩
        case measure => simp only [intOf]; omega
      · rw [if_neg t1] at hst
        have HR : Hid (covA f t L = false) := hst
        have t1' : (da != x) = true := by simpa using t1
        clear hst t1
        go_wp2
        go_ret
        exact ⟨ret_bool HR.out.symm, HBA.out⟩
    · obtain rfl : k = L.length := by omega
      have HR : Hid (covA f t L = decide (x = t)) := by
        have := HF.out
        rwa [List.drop_length] at this
      clear HF
      go_wp2
      go_ret
      exact ⟨ret_bool (by rw [HR.out]; first | rfl | simp), HB.out⟩
end Go.Proofs.Ytoimmapdkapheaa
