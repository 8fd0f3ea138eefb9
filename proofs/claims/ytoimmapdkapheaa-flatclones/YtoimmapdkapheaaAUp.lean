/- The document's examples. -/
import Derived.Test.YtoimmapdkapheaaATurn
namespace Go.Proofs.Ytoimmapdkapheaa
set_option maxRecDepth 4000
open Go.RowKit

theorem LayW.yes {w w' : World} {M : List AAr} {e : Ending} (h : LayW w M e w') (c : M.length ≤ 64) : ∃ v, e = .returned (.tuple #[v, .nilIface]) ∧ Row rAAr w.heap.size w' v M ∧ Below w.heap.size w w' := by
  have h1 := h.1
  rw [if_pos c] at h1
  obtain ⟨v, e1, r⟩ := h1
  exact ⟨v, e1, r, h.2⟩
theorem may_one (a b : Int) (x y z : Bool) (h : SpanA a b) : MayA [⟨a, b, x, y, z⟩] := by
  obtain ⟨h1, h2, h3⟩ := h
  exact ⟨by simp, h1, h2, h3, (fun _ k => by cases k), trivial⟩
theorem up_lay (w : World) :
    Calls Try.prog 43 #[.slice (some ⟨w.heap.size, 0, none⟩) 1 1, av ⟨4, 6, false, false, false⟩] (w.alloc (.cells (AAr.arr ⟨0, 4, false, false, false⟩) 55)) fun e w' => ∃ g c, e = .returned (.tuple #[.slice (some ⟨g, 0, none⟩) 1 c, .nilIface]) ∧ Hid (Row rAAr w.heap.size w' (.slice (some ⟨g, 0, none⟩) 1 c) [⟨0, 6, false, false, false⟩]) ∧ Hid (Below w.heap.size w w') := by
  have hb := new_below w (.cells (AAr.arr ⟨0, 4, false, false, false⟩) 55)
  refine (lay_any (c := 1) (Sn.newd w ⟨0, 4, false, false, false⟩) (by unfold maxLen; simp) ⟨4, 6, false, false, false⟩).mono fun e w' h => ?_
  rcases h with ⟨_, h⟩ | ⟨⟨h, _⟩, _⟩
  · obtain ⟨v, e1, r, hb2⟩ := h.yes (by decide)
    have r' : Row rAAr (w.alloc (.cells (AAr.arr ⟨0, 4, false, false, false⟩) 55)).heap.size w' v [⟨0, 6, false, false, false⟩] := r
    rcases r'.cases with ⟨-, e2⟩ | ⟨g, c, cur, e2, -⟩
    · cases e2
    · subst e2
      exact ⟨g, c, e1, r'.lower hb.size, below_call' hb hb2⟩
  · exact absurd ⟨may_one 0 4 _ _ _ ⟨by omega, by omega, by omega⟩, (⟨by omega, by omega, by omega⟩ : SpanA 4 6)⟩ h
theorem up_cut (w : World) :
    Calls Try.prog 48 #[.slice (some ⟨w.heap.size, 0, none⟩) 1 1, .int .i64 2, .int .i64 4] (w.alloc (.cells (AAr.arr ⟨0, 6, false, false, false⟩) 55)) fun e w' => ∃ g c, e = .returned (.tuple #[.slice (some ⟨g, 0, none⟩) 2 c, .nilIface]) ∧ Hid (Row rAAr w.heap.size w' (.slice (some ⟨g, 0, none⟩) 2 c) [⟨0, 2, false, false, false⟩, ⟨4, 6, false, false, false⟩]) ∧ Hid (Below w.heap.size w w') := by
  have hb := new_below w (.cells (AAr.arr ⟨0, 6, false, false, false⟩) 55)
  refine (cut_any (c := 1) (Sn.newd w ⟨0, 6, false, false, false⟩) (by unfold maxLen; simp) 2 4).mono fun e w' h => ?_
  rcases h with ⟨_, h⟩ | ⟨⟨h, _⟩, _⟩
  · obtain ⟨v, e1, r, hb2⟩ := h.yes (by decide)
    have r' : Row rAAr (w.alloc (.cells (AAr.arr ⟨0, 6, false, false, false⟩) 55)).heap.size w' v [⟨0, 2, false, false, false⟩, ⟨4, 6, false, false, false⟩] := r
    rcases r'.cases with ⟨-, e2⟩ | ⟨g, c, cur, e2, -⟩
    · cases e2
    · subst e2
      exact ⟨g, c, e1, r'.lower hb.size, below_call' hb hb2⟩
  · exact absurd ⟨may_one 0 6 _ _ _ ⟨by omega, by omega, by omega⟩, (⟨by omega, by omega, by omega⟩ : SpanA 2 4)⟩ h
end Go.Proofs.Ytoimmapdkapheaa
