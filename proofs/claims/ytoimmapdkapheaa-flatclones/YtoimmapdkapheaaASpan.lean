/- checkSpan. -/
import Derived.Test.YtoimmapdkapheaaAChk
namespace Go.Proofs.Ytoimmapdkapheaa
set_option maxRecDepth 4000
open Go.RowKit

set_option maxHeartbeats 2000000 in
theorem chkspan_any {w : World} {ao : Option Addr} {c : Nat} {L : List AAr} (hs : Sn rAAr w ao L) (hm : L.length ≤ maxLen) (a b : Int) :
    Calls Try.prog 58 #[.slice ao L.length c, .int .i64 a, .int .i64 b] w fun e w' => (((MayA L ∧ SpanA a b) ∧ e = .returned .nilIface) ∨ (¬ (MayA L ∧ SpanA a b) ∧ e = .returned (.iface 48 (.int .i64 1)))) ∧ Below w.heap.size w w' := by
  have hC := check_any (c := c) hs hm
  have hSp := fun w => span_any a b w
  have HS : Hid (spanB a b = true ↔ SpanA a b) := spanB_iff a b
  clear hs
  generalize spanB a b = sp at *
  go_enter Try.func58, Try.ntmps58
  go_wp2_with fail
  refine hC.mono ?_
  rintro e w1 ⟨h, hb⟩
  rcases h with ⟨hM, rfl⟩ | ⟨hM, rfl⟩
  · have HM : Hid (MayA L) := hM
    have HB : Hid (Below w.heap.size w w1) := hb
    clear hM hb hC
    cases sp with
    | true =>
      have HY : Hid (SpanA a b) := HS.out.1 rfl
      clear HS
      go_wp2_with (go_at_call 72; refine (hSp _).mono ?_; rintro e w5 ⟨rfl, hw⟩; obtain rfl := hw.symm; clear hw)
      go_ret
      exact ⟨Or.inl ⟨⟨HM.out, HY.out⟩, rfl⟩, HB.out⟩
    | false =>
      have HY : Hid (¬ SpanA a b) := fun h => by cases HS.out.2 h
      clear HS
      go_wp2_with (go_at_call 72; refine (hSp _).mono ?_; rintro e w5 ⟨rfl, hw⟩; obtain rfl := hw.symm; clear hw)
      go_ret
      exact ⟨Or.inr ⟨fun h => HY.out h.2, rfl⟩, HB.out⟩
  · have HM : Hid (¬ MayA L) := hM
    have HB : Hid (Below w.heap.size w w1) := hb
    clear hM hb hC HS
    go_wp2
    go_ret
    exact ⟨Or.inr ⟨fun h => HM.out h.1, rfl⟩, HB.out⟩
end Go.Proofs.Ytoimmapdkapheaa
