/- Whether what is told is right. -/
import Derived.Test.YtaeodbeodacmaaaATo
namespace Go.Proofs.Ytaeodbeodacmaaa
open Go.RowKit

set_option maxHeartbeats 4000000 in
theorem right_any {W w0 w : World} {f : Int → Option Pg} {M : List AAr} {v u : Value} {ao : Option Addr} {c : Nat} (hM : CanA f M) (h : LayW W M (.returned (.tuple #[v, u])) w0) (hb : Below w0.heap.size w0 w) (hs : Sn rAPg w ao (pagesA f)) :
    Calls Try.prog 23 #[v, u, .slice ao 4096 c] w fun e w' => e = .returned (.bool true) ∧ Below w.heap.size w w' := by
  have hT := to_any (c := c) hs hM
  have h1 := h.1
  by_cases h64 : M.length ≤ 64
  · rw [if_pos h64] at h1
    obtain ⟨v', e1, r⟩ := h1
    simp only [Ending.returned.injEq, Value.tuple.injEq, Array.mk.injEq, List.cons.injEq, and_true] at e1
    obtain ⟨rfl, rfl⟩ := e1
    have r' := r.below hb
    obtain ⟨a1, c1, rfl⟩ := r'.form
    have HR : Hid (Row rAAr W.heap.size w (.slice a1 M.length c1) M) := r'
    rw [decide_eq_true h64] at hT
    clear h hb hs hM r r'
    go_enter Try.func23, Try.ntmps23
    go_wp2_with fail
    refine hT.mono ?_
    rintro e w1 ⟨v2, rfl, r2, hb2⟩
    obtain ⟨a2, c2, rfl⟩ := r2.form
    have hSm := same_self (c1 := c1) (c2 := c2) (HR.out.sn.below hb2) r2.sn (by unfold maxLen; omega)
    have HB2 : Hid (Below w.heap.size w w1) := hb2
    clear hT r2 hb2
    go_wp2_with fail
    refine hSm.mono ?_
    rintro e w3 ⟨rfl, hb3⟩
    have HB3 : Hid (Below w.heap.size w w3) := below_call' HB2.out hb3
    clear hSm hb3
    go_wp2
    go_ret
    exact ⟨rfl, HB3.out⟩
  · rw [if_neg h64] at h1
    simp only [Ending.returned.injEq, Value.tuple.injEq, Array.mk.injEq, List.cons.injEq, and_true] at h1
    obtain ⟨rfl, rfl⟩ := h1
    rw [decide_eq_false h64] at hT
    have he := eq_code 5 5
    rw [beq_self_eq_true] at he
    clear h hb hs hM
    go_enter Try.func23, Try.ntmps23
    go_wp2_with fail
    refine hT.mono ?_
    rintro e w1 ⟨v2, rfl, r2, hb2⟩
    have HB2 : Hid (Below w.heap.size w w1) := hb2
    clear hT r2 hb2
    go_wp2
    go_ret
    exact ⟨rfl, HB2.out⟩
end Go.Proofs.Ytaeodbeodacmaaa
