/- UDd: a struct paviorlaw07.Deed as it lies in cells, and what a reading of it gives. -/
import Derived.Test.YtbpihdeinkopfaaDoorZArgs
namespace Go.Proofs.YtbpihdeinkopfaaDoor
open Go.ChangeShapes Go.WideShapes Go.ChangeAt Go.RowKit Go.Deep

structure UDd where
  what : Int
  frame : Int
  order : Int
def UDd.zero : UDd := ⟨0, 0, 0⟩
def UDd.cells (d : UDd) : List Value := [.int .i64 d.what, .int .i64 d.frame, .int .i64 d.order]
def UDd.ok (d : UDd) : Prop := (-9223372036854775808 ≤ d.what ∧ d.what ≤ 9223372036854775807) ∧ (-9223372036854775808 ≤ d.frame ∧ d.frame ≤ 9223372036854775807) ∧ (-9223372036854775808 ≤ d.order ∧ d.order ≤ 9223372036854775807)
theorem UDd.len (d : UDd) : d.cells.length = 3 := rfl
theorem cellsOf_UDd : Tryd.prog.cellsOf 37 = 3 := by kernel_rfl

section
variable {H : Type} {enc : TypeId × Value → H} {w : World} {base : Nat} {spare : Nat → Bool} {held : Bool}
theorem trod_UDd {fuel : Nat} {cs : List Value} {x : DataW H × List MemPlace} (hf : DataW.trod enc Tryd.prog w base spare held fuel 37 cs = some x) (hl : cs.length = 3) : ∃ d : UDd, cs = d.cells ∧ d.ok := by
  obtain ⟨xs, n, _, hx, _, hlen, h⟩ := DataW.trod_struct Tryd.underlying37 hf
  match cs, hl, xs, hlen with
  | [c0, c1, c2], _, [x0, x1, x2], _ =>
    have z0 : Tryd.prog.cellsOf 3 = 1 := by kernel_rfl
    have h0 := h 0 _ rfl
    simp [z0] at h0
    obtain ⟨a0, e0, _, g0⟩ := DataW.trod_int Tryd.underlying3 h0
    simp only [List.cons.injEq, and_true] at e0
    subst e0
    have h1 := h 1 _ rfl
    simp [z0] at h1
    obtain ⟨a1, e1, _, g1⟩ := DataW.trod_int Tryd.underlying3 h1
    simp only [List.cons.injEq, and_true] at e1
    subst e1
    have h2 := h 2 _ rfl
    simp [z0] at h2
    obtain ⟨a2, e2, _, g2⟩ := DataW.trod_int Tryd.underlying3 h2
    simp only [List.cons.injEq, and_true] at e2
    subst e2
    exact ⟨⟨a0, a1, a2⟩, rfl, ⟨(bounds_i64 g0), (bounds_i64 g1), (bounds_i64 g2)⟩⟩

theorem open_UDd {r : Reach} {b0 : Nat} {v : Value} {d : DataW H} {ps : List MemPlace} (hval : Value.okWide Tryd.prog w r b0 37 v) (hd : DataW.Trod enc Tryd.prog w base spare held 37 v d ps) :
    ∃ a : UDd, v = .agg a.cells.toArray ∧ a.ok := by
  obtain ⟨cs, rfl, hs⟩ := okWide_struct Tryd.underlying37 hval
  rw [cellsOf_UDd] at hs
  obtain ⟨l⟩ := cs
  obtain ⟨fuel, hf⟩ := hd
  obtain ⟨a, e, h⟩ := trod_UDd (cs := l) (by simpa [Value.cells] using hf) (by simpa using hs)
  exact ⟨a, by rw [e], h⟩
end
end Go.Proofs.YtbpihdeinkopfaaDoor
