/- EDd: a struct paviorlaw05.Deed as it lies in cells, and what a reading of it gives. -/
import Derived.Test.YtpkagigjcnjlpaaEEnt
namespace Go.Proofs.Ytpkagigjcnjlpaa
open Go.ChangeShapes Go.WideShapes Go.ChangeAt Go.RowKit Go.Deep

structure EDd where
  what : Int
  e : Ent
  n : Int
  page : Int
def EDd.zero : EDd := ⟨0, Ent.zero, 0, 0⟩
def EDd.cells (d : EDd) : List Value := [.int .i64 d.what] ++ Ent.cells d.e ++ [.int .i64 d.n] ++ [.int .i64 d.page]
def EDd.ok (d : EDd) : Prop := (-9223372036854775808 ≤ d.what ∧ d.what ≤ 9223372036854775807) ∧ Ent.ok d.e ∧ (-9223372036854775808 ≤ d.n ∧ d.n ≤ 9223372036854775807) ∧ (-9223372036854775808 ≤ d.page ∧ d.page ≤ 9223372036854775807)
theorem EDd.len (d : EDd) : d.cells.length = 9 := by simp [EDd.cells, Ent.len]
theorem cellsOf_EDd : Try.prog.cellsOf 43 = 9 := by kernel_rfl

section
variable {H : Type} {enc : TypeId × Value → H} {w : World} {base : Nat} {spare : Nat → Bool} {held : Bool}
theorem trod_EDd {fuel : Nat} {cs : List Value} {x : DataW H × List MemPlace} (hf : DataW.trod enc Try.prog w base spare held fuel 43 cs = some x) (hl : cs.length = 9) : ∃ d : EDd, cs = d.cells ∧ d.ok := by
  obtain ⟨xs, n, _, hx, _, hlen, h⟩ := DataW.trod_struct Try.underlying43 hf
  match cs, hl, xs, hlen with
  | [c0, c1, c2, c3, c4, c5, c6, c7, c8], _, [x0, x1, x2, x3], _ =>
    have z0 : Try.prog.cellsOf 26 = 6 := by kernel_rfl
    have z1 : Try.prog.cellsOf 3 = 1 := by kernel_rfl
    have h0 := h 0 _ rfl
    simp [z1] at h0
    obtain ⟨a0, e0, _, g0⟩ := DataW.trod_int Try.underlying3 h0
    simp only [List.cons.injEq, and_true] at e0
    subst e0
    have h1 := h 1 _ rfl
    simp [z0] at h1
    obtain ⟨a1, e1, g1⟩ := trod_Ent h1 rfl
    have h2 := h 2 _ rfl
    simp [z1] at h2
    obtain ⟨a2, e2, _, g2⟩ := DataW.trod_int Try.underlying3 h2
    simp only [List.cons.injEq, and_true] at e2
    subst e2
    have h3 := h 3 _ rfl
    simp [z1] at h3
    obtain ⟨a3, e3, _, g3⟩ := DataW.trod_int Try.underlying3 h3
    simp only [List.cons.injEq, and_true] at e3
    subst e3
    refine ⟨⟨a0, a1, a2, a3⟩, ?_, ⟨(bounds_i64 g0), g1, (bounds_i64 g2), (bounds_i64 g3)⟩⟩
    simp only [EDd.cells, ← e1, List.cons_append, List.nil_append]

theorem open_EDd {r : Reach} {b0 : Nat} {v : Value} {d : DataW H} {ps : List MemPlace} (hval : Value.okWide Try.prog w r b0 43 v) (hd : DataW.Trod enc Try.prog w base spare held 43 v d ps) :
    ∃ a : EDd, v = .agg a.cells.toArray ∧ a.ok := by
  obtain ⟨cs, rfl, hs⟩ := okWide_struct Try.underlying43 hval
  rw [cellsOf_EDd] at hs
  obtain ⟨l⟩ := cs
  obtain ⟨fuel, hf⟩ := hd
  obtain ⟨a, e, h⟩ := trod_EDd (cs := l) (by simpa [Value.cells] using hf) (by simpa using hs)
  exact ⟨a, by rw [e], h⟩
end
end Go.Proofs.Ytpkagigjcnjlpaa
