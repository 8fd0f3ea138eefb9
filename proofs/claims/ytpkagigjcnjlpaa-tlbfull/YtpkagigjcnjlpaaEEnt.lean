/- Ent: a struct api.Entry as it lies in cells, and what a reading of it gives. -/
import Derived.Test.YtpkagigjcnjlpaaZArgs
namespace Go.Proofs.Ytpkagigjcnjlpaa
open Go.ChangeShapes Go.WideShapes Go.ChangeAt Go.RowKit Go.Deep

structure Ent where
  asid : Int
  first : Int
  order : Int
  base : Int
  writ : Bool
  exe : Bool
def Ent.zero : Ent := ⟨0, 0, 0, 0, false, false⟩
def Ent.cells (d : Ent) : List Value := [.int .i64 d.asid, .int .i64 d.first, .int .i64 d.order, .int .i64 d.base, .bool d.writ, .bool d.exe]
def Ent.ok (d : Ent) : Prop := (-9223372036854775808 ≤ d.asid ∧ d.asid ≤ 9223372036854775807) ∧ (-9223372036854775808 ≤ d.first ∧ d.first ≤ 9223372036854775807) ∧ (-9223372036854775808 ≤ d.order ∧ d.order ≤ 9223372036854775807) ∧ (-9223372036854775808 ≤ d.base ∧ d.base ≤ 9223372036854775807)
theorem Ent.len (d : Ent) : d.cells.length = 6 := rfl
theorem cellsOf_Ent : Try.prog.cellsOf 26 = 6 := by kernel_rfl

section
variable {H : Type} {enc : TypeId × Value → H} {w : World} {base : Nat} {spare : Nat → Bool} {held : Bool}
theorem trod_Ent {fuel : Nat} {cs : List Value} {x : DataW H × List MemPlace} (hf : DataW.trod enc Try.prog w base spare held fuel 26 cs = some x) (hl : cs.length = 6) : ∃ d : Ent, cs = d.cells ∧ d.ok := by
  obtain ⟨xs, n, _, hx, _, hlen, h⟩ := DataW.trod_struct Try.underlying26 hf
  match cs, hl, xs, hlen with
  | [c0, c1, c2, c3, c4, c5], _, [x0, x1, x2, x3, x4, x5], _ =>
    have z0 : Try.prog.cellsOf 4 = 1 := by kernel_rfl
    have z1 : Try.prog.cellsOf 3 = 1 := by kernel_rfl
    have h0 := h 0 _ rfl
    simp [z1] at h0
    obtain ⟨a0, e0, _, g0⟩ := DataW.trod_int Try.underlying3 h0
    simp only [List.cons.injEq, and_true] at e0
    subst e0
    have h1 := h 1 _ rfl
    simp [z1] at h1
    obtain ⟨a1, e1, _, g1⟩ := DataW.trod_int Try.underlying3 h1
    simp only [List.cons.injEq, and_true] at e1
    subst e1
    have h2 := h 2 _ rfl
    simp [z1] at h2
    obtain ⟨a2, e2, _, g2⟩ := DataW.trod_int Try.underlying3 h2
    simp only [List.cons.injEq, and_true] at e2
    subst e2
    have h3 := h 3 _ rfl
    simp [z1] at h3
    obtain ⟨a3, e3, _, g3⟩ := DataW.trod_int Try.underlying3 h3
    simp only [List.cons.injEq, and_true] at e3
    subst e3
    have h4 := h 4 _ rfl
    simp [z0] at h4
    obtain ⟨a4, e4, _⟩ := DataW.trod_bool Try.underlying4 h4
    simp only [List.cons.injEq, and_true] at e4
    subst e4
    have h5 := h 5 _ rfl
    simp [z0] at h5
    obtain ⟨a5, e5, _⟩ := DataW.trod_bool Try.underlying4 h5
    simp only [List.cons.injEq, and_true] at e5
    subst e5
    exact ⟨⟨a0, a1, a2, a3, a4, a5⟩, rfl, ⟨(bounds_i64 g0), (bounds_i64 g1), (bounds_i64 g2), (bounds_i64 g3)⟩⟩

theorem open_Ent {r : Reach} {b0 : Nat} {v : Value} {d : DataW H} {ps : List MemPlace} (hval : Value.okWide Try.prog w r b0 26 v) (hd : DataW.Trod enc Try.prog w base spare held 26 v d ps) :
    ∃ a : Ent, v = .agg a.cells.toArray ∧ a.ok := by
  obtain ⟨cs, rfl, hs⟩ := okWide_struct Try.underlying26 hval
  rw [cellsOf_Ent] at hs
  obtain ⟨l⟩ := cs
  obtain ⟨fuel, hf⟩ := hd
  obtain ⟨a, e, h⟩ := trod_Ent (cs := l) (by simpa [Value.cells] using hf) (by simpa using hs)
  exact ⟨a, by rw [e], h⟩
end
end Go.Proofs.Ytpkagigjcnjlpaa
