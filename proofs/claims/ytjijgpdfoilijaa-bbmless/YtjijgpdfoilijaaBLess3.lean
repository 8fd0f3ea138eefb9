/- BbmLess: the walk, for all arguments. -/
import Derived.Test.YtjijgpdfoilijaaBLess2
namespace Go.Proofs.Ytjijgpdfoilijaa
open Go.RowKit

theorem walk_bbmLess (asid lvl t p f skip : Int) (a b : Dsc) (w : World) (_ : -9223372036854775808 ≤ asid ∧ asid ≤ 9223372036854775807) (_ : -9223372036854775808 ≤ lvl ∧ lvl ≤ 9223372036854775807) (_ : -9223372036854775808 ≤ t ∧ t ≤ 9223372036854775807)
    (_ : -9223372036854775808 ≤ p ∧ p ≤ 9223372036854775807) (_ : -9223372036854775808 ≤ f ∧ f ≤ 9223372036854775807) (hs : -9223372036854775808 ≤ skip ∧ skip ≤ 9223372036854775807) :
    Calls Try.prog 4 #[.int .i64 asid, .int .i64 lvl, .int .i64 t, .int .i64 p, .int .i64 f, .int .i64 skip, dv a, dv b] w fun e w' => e = .returned (.bool true) ∧ Below w.heap.size w w' := by
  cases hm : mayW asid lvl t p f with
  | false => exact less_no0 asid lvl t p f skip a b w (Or.inl hm)
  | true =>
    by_cases h1 : lvl = 0
    · exact less_no0 asid lvl t p f skip a b w (Or.inr ⟨hm, h1⟩)
    cases ha : mayD lvl a with
    | false => exact less_no1 asid lvl t p f skip a b w hm h1 (Or.inl ha)
    | true =>
      cases hb : mayD lvl b with
      | false => exact less_no1 asid lvl t p f skip a b w hm h1 (Or.inr ⟨ha, hb⟩)
      | true =>
        by_cases h2 : wordD a % 2 = 0
        · exact less_no2 asid lvl t p f skip a b w hm h1 ha hb (Or.inl h2)
        by_cases h3 : wordD b % 2 = 0
        · exact less_no2 asid lvl t p f skip a b w hm h1 ha hb (Or.inr ⟨h2, h3⟩)
        exact less_yes asid lvl t p f skip a b w hs hm h1 ha hb h2 h3
end Go.Proofs.Ytjijgpdfoilijaa
