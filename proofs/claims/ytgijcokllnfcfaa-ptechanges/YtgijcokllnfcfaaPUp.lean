/- The document's examples hold: the statements' common head of layer 2 answers true. -/
import Derived.Test.YtgijcokllnfcfaaPEnc
namespace Go.Proofs.Ytgijcokllnfcfaa
open Go.RowKit

theorem says_ex1 : saysD 3 0 = nilD := says_word0 3
theorem says_ex2 : saysD 0 1 = badD := by
  have : okN 0 1 = false := by decide +kernel
  unfold saysD
  rw [this]
  rfl
theorem enc_ex : mayD 3 ⟨3, 2, true, true, false, false, 0⟩ = true ∧ wordD ⟨3, 2, true, true, false, false, 0⟩ = 8259 := by decide +kernel

theorem up_d1 (w : World) : Calls Try.prog 11 #[.int .i64 3, .int .u64 0] w fun e w' => e = .returned (.tuple #[.agg #[.int .i64 0, .int .i64 0, .bool false, .bool false, .bool false, .bool false, .int .i64 0], .nilIface]) ∧ Below w.heap.size w w' := by
  have := decode_yes 3 0 w (by decide) (by decide)
  rw [says_ex1] at this
  exact this
theorem up_d2 (w : World) : Calls Try.prog 11 #[.int .i64 0, .int .u64 1] w fun e w' => e = .returned (.tuple #[.agg #[.int .i64 5, .int .i64 0, .bool false, .bool false, .bool false, .bool false, .int .i64 0], .nilIface]) ∧ Below w.heap.size w w' := by
  have := decode_yes 0 1 w (by decide) (by decide)
  rw [says_ex2] at this
  exact this
theorem up_e (w : World) : Calls Try.prog 13 #[.int .i64 3, .agg #[.int .i64 3, .int .i64 2, .bool true, .bool true, .bool false, .bool false, .int .i64 0]] w fun e w' => e = .returned (.tuple #[.int .u64 8259, .nilIface]) ∧ Below w.heap.size w w' := by
  have := encode_yes 3 ⟨3, 2, true, true, false, false, 0⟩ w enc_ex.1
  rw [enc_ex.2] at this
  exact this

set_option maxHeartbeats 1000000 in
theorem up_any (w : World) :
    Calls Try.prog 10 #[] w fun e w' => e = .returned (.bool true) ∧ Below w.heap.size w w' := by
  go_enter Try.func10, Try.ntmps10
  go_wp2_with fail
  refine (up_d1 _).mono ?_
  rintro e w1 ⟨rfl, hb1⟩
  go_wp2_with fail
  refine (up_e _).mono ?_
  rintro e w2 ⟨rfl, hb2⟩
  obtain ⟨hc2, hf2⟩ := bcell hb2
  go_wp2_with fail
  refine (up_d2 _).mono ?_
  rintro e w3 ⟨rfl, hb3⟩
  have hz1 := hb1.size
  have hz2 : w1.heap.size < w2.heap.size := by have := hb2.size; simp at this; omega
  have hc3 : ∀ o, w3.cell? ⟨w1.heap.size, o, none⟩ = w2.cell? ⟨w1.heap.size, o, none⟩ := fun o => (bcell hb3).1 _ _ hz2
  have hbb : Below w.heap.size w w3 := (((hb1.alloc hz1 _).trans (hb2.mono (by simp; omega)))).trans (hb3.mono (by omega))
  have hz3 := hb3.size
  have hlt : w1.heap.size < w3.heap.size := by omega
  have ka := fun o v => cell_alloc_old hlt o v
  have kk : ∀ o, w3.cell? ⟨w1.heap.size, o, none⟩ = (w1.alloc (.cells #[.int .i64 0, .int .i64 0, .bool false, .bool false, .bool false, .bool false, .int .i64 0] 25)).cell? ⟨w1.heap.size, o, none⟩ := fun o => by rw [hc3, hc2 _ _ (by simp)]
  clear hc2 hf2 hc3
  go_wp2
  go_ret
  refine ⟨rfl, ?_⟩
  repeat' (first | (with_reducible exact hbb) | (with_reducible refine Below.setCell ?_ ?_ _) | (with_reducible refine below_drewN ?_ _) | (with_reducible refine Below.alloc ?_ ?_ _) | (with_reducible exact Nat.le_refl _))
  all_goals (first | omega | (simp; omega))
end Go.Proofs.Ytgijcokllnfcfaa
