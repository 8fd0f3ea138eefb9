/- Fou: a struct api.Found as it lies in cells, and what a reading of it gives. -/
import Derived.Test.YtpkagigjcnjlpaaZArgs
namespace Go.Proofs.Ytpkagigjcnjlpaa
open Go.ChangeShapes Go.WideShapes Go.ChangeAt Go.RowKit Go.Deep

structure Fou where
  kind : Int
  level : Int
  table : Int
  place : Int
  frame : Int
  order : Int
  first : Int
  base : Int
  writ : Bool
  exe : Bool
  seen : Bool
def Fou.zero : Fou := ⟨0, 0, 0, 0, 0, 0, 0, 0, false, false, false⟩
def Fou.cells (d : Fou) : List Value := [.int .i64 d.kind, .int .i64 d.level, .int .i64 d.table, .int .i64 d.place, .int .i64 d.frame, .int .i64 d.order, .int .i64 d.first, .int .i64 d.base, .bool d.writ, .bool d.exe, .bool d.seen]
def Fou.ok (d : Fou) : Prop := (-9223372036854775808 ≤ d.kind ∧ d.kind ≤ 9223372036854775807) ∧ (-9223372036854775808 ≤ d.level ∧ d.level ≤ 9223372036854775807) ∧ (-9223372036854775808 ≤ d.table ∧ d.table ≤ 9223372036854775807) ∧ (-9223372036854775808 ≤ d.place ∧ d.place ≤ 9223372036854775807) ∧ (-9223372036854775808 ≤ d.frame ∧ d.frame ≤ 9223372036854775807) ∧ (-9223372036854775808 ≤ d.order ∧ d.order ≤ 9223372036854775807) ∧ (-9223372036854775808 ≤ d.first ∧ d.first ≤ 9223372036854775807) ∧ (-9223372036854775808 ≤ d.base ∧ d.base ≤ 9223372036854775807)
theorem Fou.len (d : Fou) : d.cells.length = 11 := rfl
theorem cellsOf_Fou : Try.prog.cellsOf 23 = 11 := by kernel_rfl

section
variable {H : Type} {enc : TypeId × Value → H} {w : World} {base : Nat} {spare : Nat → Bool} {held : Bool}
theorem trod_Fou {fuel : Nat} {cs : List Value} {x : DataW H × List MemPlace} (hf : DataW.trod enc Try.prog w base spare held fuel 23 cs = some x) (hl : cs.length = 11) : ∃ d : Fou, cs = d.cells ∧ d.ok := by
  obtain ⟨xs, n, _, hx, _, hlen, h⟩ := DataW.trod_struct Try.underlying23 hf
  match cs, hl, xs, hlen with
  | [c0, c1, c2, c3, c4, c5, c6, c7, c8, c9, c10], _, [x0, x1, x2, x3, x4, x5, x6, x7, x8, x9, x10], _ =>
    have z0 : Try.prog.cellsOf 4 = 1 := by kernel_rfl
    have z1 : Try.prog.cellsOf 3 = 1 := by kernel_rfl
    have h0 := h 0 _ rfl
    simp [z1] at h0
    obtain ⟨a0, e0, _, g0⟩ := DataW.trod_int Try.underlying3 h0
    simp only [List.cons.injEq, and_true] at e0
    subst e0
    have h1 := h 1 _ rfl
    simp [z1] at h1
    obtain ⟨a1, e1, _, g1⟩ := DataW.trod_int Try.underlying3 h1
    simp only [List.cons.injEq, and_true] at e1
    subst e1
    have h2 := h 2 _ rfl
    simp [z1] at h2
    obtain ⟨a2, e2, _, g2⟩ := DataW.trod_int Try.underlying3 h2
    simp only [List.cons.injEq, and_true] at e2
    subst e2
    have h3 := h 3 _ rfl
    simp [z1] at h3
    obtain ⟨a3, e3, _, g3⟩ := DataW.trod_int Try.underlying3 h3
    simp only [List.cons.injEq, and_true] at e3
    subst e3
    have h4 := h 4 _ rfl
    simp [z1] at h4
    obtain ⟨a4, e4, _, g4⟩ := DataW.trod_int Try.underlying3 h4
    simp only [List.cons.injEq, and_true] at e4
    subst e4
    have h5 := h 5 _ rfl
    simp [z1] at h5
    obtain ⟨a5, e5, _, g5⟩ := DataW.trod_int Try.underlying3 h5
    simp only [List.cons.injEq, and_true] at e5
    subst e5
    have h6 := h 6 _ rfl
    simp [z1] at h6
    obtain ⟨a6, e6, _, g6⟩ := DataW.trod_int Try.underlying3 h6
    simp only [List.cons.injEq, and_true] at e6
    subst e6
    have h7 := h 7 _ rfl
    simp [z1] at h7
    obtain ⟨a7, e7, _, g7⟩ := DataW.trod_int Try.underlying3 h7
    simp only [List.cons.injEq, and_true] at e7
    subst e7
    have h8 := h 8 _ rfl
    simp [z0] at h8
    obtain ⟨a8, e8, _⟩ := DataW.trod_bool Try.underlying4 h8
    simp only [List.cons.injEq, and_true] at e8
    subst e8
    have h9 := h 9 _ rfl
    simp [z0] at h9
    obtain ⟨a9, e9, _⟩ := DataW.trod_bool Try.underlying4 h9
    simp only [List.cons.injEq, and_true] at e9
    subst e9
    have h10 := h 10 _ rfl
    simp [z0] at h10
    obtain ⟨a10, e10, _⟩ := DataW.trod_bool Try.underlying4 h10
    simp only [List.cons.injEq, and_true] at e10
    subst e10
    exact ⟨⟨a0, a1, a2, a3, a4, a5, a6, a7, a8, a9, a10⟩, rfl, ⟨(bounds_i64 g0), (bounds_i64 g1), (bounds_i64 g2), (bounds_i64 g3), (bounds_i64 g4), (bounds_i64 g5), (bounds_i64 g6), (bounds_i64 g7)⟩⟩

theorem open_Fou {r : Reach} {b0 : Nat} {v : Value} {d : DataW H} {ps : List MemPlace} (hval : Value.okWide Try.prog w r b0 23 v) (hd : DataW.Trod enc Try.prog w base spare held 23 v d ps) :
    ∃ a : Fou, v = .agg a.cells.toArray ∧ a.ok := by
  obtain ⟨cs, rfl, hs⟩ := okWide_struct Try.underlying23 hval
  rw [cellsOf_Fou] at hs
  obtain ⟨l⟩ := cs
  obtain ⟨fuel, hf⟩ := hd
  obtain ⟨a, e, h⟩ := trod_Fou (cs := l) (by simpa [Value.cells] using hf) (by simpa using hs)
  exact ⟨a, by rw [e], h⟩
end
end Go.Proofs.Ytpkagigjcnjlpaa
