/- Where a frame is found in a store. -/
import Derived.Test.YtbpihdeinkopfaaDoorUSrch
namespace Go.Proofs.YtbpihdeinkopfaaDoor
open Go.RowKit

set_option maxHeartbeats 1000000 in
theorem endsBehind_any {F : Nat → Prop} {w : World} {p n : Nat} {v : Value} {L : List Bk} (hs : Sto F w p n v L) (ho : Okl n L) (z : Int) :
    Calls Tryd.prog 31 #[.pointer (some ⟨p, 0, none⟩), .int .i64 z] w fun e w' => e = .returned (.int .i64 (behind L z.toNat)) ∧ Below w.heap.size w w' := by
  have hb0 : Below w.heap.size w ((w.alloc (.cells #[.pointer (some ⟨p, 0, none⟩)] 23)).alloc (.cells #[.int .i64 z] 3)) := ((Below.refl _ _).alloc (Nat.le_refl _) _).alloc (by simp) _
  have hc := search_any (hs.below hb0) ho w.heap.size (w.heap.size + 1) z (by rw [cell_alloc_old (by simp)]; simp) (by simp)
  obtain ⟨ao, c, rfl⟩ := hs.row.form
  have h1 := hs.laid.cell 1
  simp at h1
  have l := hs.laid.lt
  have HB : Hid _ := hb0
  clear hb0 hs ho
  go_enter Tryd.func31, Tryd.ntmps31
  go_wp2_with fail
  refine hc.mono ?_
  rintro e w1 ⟨rfl, hb1⟩
  go_wp2
  go_ret
  exact ⟨rfl, HB.out.trans (hb1.mono (by simp; omega))⟩

/-- Whether the i-th begins at that frame or ahead of it. -/
def upTo (L : List Bk) (i : Nat) (z : Int) : Bool := match L[i]? with | some b => decide ((b.1 : Int) ≤ z) | none => false
set_option maxHeartbeats 1000000 in
theorem beginsUpTo_any {F : Nat → Prop} {w : World} {p n : Nat} {v : Value} {L : List Bk} (hs : Sto F w p n v L) (i : Nat) (z : Int) :
    Calls Tryd.prog 32 #[.pointer (some ⟨p, 0, none⟩), .int .i64 i, .int .i64 z] w fun e w' => e = .returned (.bool (upTo L i z)) ∧ w' = w := by
  by_cases hi : i < L.length
  · obtain ⟨ao, c, rfl⟩ := hs.row.form
    obtain ⟨g, rfl, _, _, hg, hlc, hcm, hat⟩ := hs.row.at hi
    obtain ⟨c0, c1⟩ := rB.at hat
    simp only [show rB.n = 2 from rfl, show rB.zero = (0, 0) from rfl] at c0 c1
    have hc := hs.laid.cell 1
    simp at hc
    have hil : (i : Int) < L.length := by omega
    obtain ⟨b, hb⟩ : ∃ b, b = L.getD i (0, 0) := ⟨_, rfl⟩
    have e : upTo L i z = decide ((b.1 : Int) ≤ z) := by
      unfold upTo
      rw [hb, List.getD_eq_getElem?_getD, List.getElem?_eq_getElem hi]
      rfl
    rw [← hb] at c0 c1
    rw [e]
    clear hat hcm hlc hs hb e
    go_enter Tryd.func32, Tryd.ntmps32
    go_wp2
    go_ret
    exact ⟨rfl, rfl⟩
  · obtain ⟨ao, c, rfl⟩ := hs.row.form
    have hc := hs.laid.cell 1
    simp at hc
    have hil : ¬ (i : Int) < L.length := by omega
    have e : upTo L i z = false := by
      unfold upTo
      rw [List.getElem?_eq_none (by omega)]
    rw [e]
    clear hs e
    go_enter Tryd.func32, Tryd.ntmps32
    go_wp2
    go_ret
    exact ⟨rfl, rfl⟩
end Go.Proofs.YtbpihdeinkopfaaDoor
