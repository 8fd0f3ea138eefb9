/- Deed: a struct paviorlaw03.Deed as it lies in cells, and what a reading of it gives. -/
import Derived.Test.YtenicbjkhcoplaaMArgs
namespace Go.Proofs.Ytenicbjkhcoplaa
open Go.ChangeShapes Go.WideShapes Go.ChangeAt Go.RowKit Go.Deep

structure Deed where
  what : Int
  a : Int
  b : Int
  v : Nat
def Deed.zero : Deed := ⟨0, 0, 0, 0⟩
def Deed.cells (d : Deed) : List Value := [.int .i64 d.what, .int .i64 d.a, .int .i64 d.b, .int .u64 d.v]
def Deed.ok (d : Deed) : Prop := (-9223372036854775808 ≤ d.what ∧ d.what ≤ 9223372036854775807) ∧ (-9223372036854775808 ≤ d.a ∧ d.a ≤ 9223372036854775807) ∧ (-9223372036854775808 ≤ d.b ∧ d.b ≤ 9223372036854775807) ∧ (d.v ≤ 18446744073709551615)
theorem Deed.len (d : Deed) : d.cells.length = 4 := rfl
theorem cellsOf_Deed : Try.prog.cellsOf 40 = 4 := by kernel_rfl

section
variable {H : Type} {enc : TypeId × Value → H} {w : World} {base : Nat} {spare : Nat → Bool} {held : Bool}
theorem trod_Deed {fuel : Nat} {cs : List Value} {x : DataW H × List MemPlace} (hf : DataW.trod enc Try.prog w base spare held fuel 40 cs = some x) (hl : cs.length = 4) : ∃ d : Deed, cs = d.cells ∧ d.ok := by
  obtain ⟨xs, n, _, hx, _, hlen, h⟩ := DataW.trod_struct Try.underlying40 hf
  match cs, hl, xs, hlen with
  | [c0, c1, c2, c3], _, [x0, x1, x2, x3], _ =>
    have z0 : Try.prog.cellsOf 3 = 1 := by kernel_rfl
    have z1 : Try.prog.cellsOf 30 = 1 := by kernel_rfl
    have h0 := h 0 _ rfl
    simp [z0] at h0
    obtain ⟨a0, e0, _, g0⟩ := DataW.trod_int Try.underlying3 h0
    simp only [List.cons.injEq, and_true] at e0
    subst e0
    have h1 := h 1 _ rfl
    simp [z0] at h1
    obtain ⟨a1, e1, _, g1⟩ := DataW.trod_int Try.underlying3 h1
    simp only [List.cons.injEq, and_true] at e1
    subst e1
    have h2 := h 2 _ rfl
    simp [z0] at h2
    obtain ⟨a2, e2, _, g2⟩ := DataW.trod_int Try.underlying3 h2
    simp only [List.cons.injEq, and_true] at e2
    subst e2
    have h3 := h 3 _ rfl
    simp [z1] at h3
    obtain ⟨a3, e3, _, g3⟩ := DataW.trod_int Try.underlying30 h3
    simp only [List.cons.injEq, and_true] at e3
    subst e3
    have b3 := bounds_u64 g3
    obtain ⟨m3, rfl⟩ : ∃ m : Nat, a3 = m := ⟨a3.toNat, by omega⟩
    exact ⟨⟨a0, a1, a2, m3⟩, rfl, ⟨(bounds_i64 g0), (bounds_i64 g1), (bounds_i64 g2), (by show m3 ≤ 18446744073709551615; omega)⟩⟩

theorem open_Deed {r : Reach} {b0 : Nat} {v : Value} {d : DataW H} {ps : List MemPlace} (hval : Value.okWide Try.prog w r b0 40 v) (hd : DataW.Trod enc Try.prog w base spare held 40 v d ps) :
    ∃ a : Deed, v = .agg a.cells.toArray ∧ a.ok := by
  obtain ⟨cs, rfl, hs⟩ := okWide_struct Try.underlying40 hval
  rw [cellsOf_Deed] at hs
  obtain ⟨l⟩ := cs
  obtain ⟨fuel, hf⟩ := hd
  obtain ⟨a, e, h⟩ := trod_Deed (cs := l) (by simpa [Value.cells] using hf) (by simpa using hs)
  exact ⟨a, by rw [e], h⟩
end
end Go.Proofs.Ytenicbjkhcoplaa
