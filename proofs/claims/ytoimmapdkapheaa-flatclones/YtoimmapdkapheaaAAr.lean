/- AAr: a struct api.Area as it lies in cells, and what a reading of it gives. -/
import Derived.Test.YtoimmapdkapheaaARt
import Derived.Test.YtoimmapdkapheaaZRow2
namespace Go.Proofs.Ytoimmapdkapheaa
set_option maxRecDepth 4000
open Go.ChangeShapes Go.WideShapes Go.ChangeAt Go.RowKit Go.Deep

structure AAr where
  a : Int
  b : Int
  w : Bool
  x : Bool
  h : Bool
def AAr.zero : AAr := ⟨0, 0, false, false, false⟩
def AAr.cells (d : AAr) : List Value := [.int .i64 d.a, .int .i64 d.b, .bool d.w, .bool d.x, .bool d.h]
def AAr.ok (d : AAr) : Prop := (-9223372036854775808 ≤ d.a ∧ d.a ≤ 9223372036854775807) ∧ (-9223372036854775808 ≤ d.b ∧ d.b ≤ 9223372036854775807)
theorem AAr.len (d : AAr) : d.cells.length = 5 := rfl
theorem cellsOf_AAr : Try.prog.cellsOf 55 = 5 := by kernel_rfl

section
variable {H : Type} {enc : TypeId × Value → H} {w : World} {base : Nat} {spare : Nat → Bool} {held : Bool}
theorem trod_AAr {fuel : Nat} {cs : List Value} {x : DataW H × List MemPlace} (hf : DataW.trod enc Try.prog w base spare held fuel 55 cs = some x) (hl : cs.length = 5) : ∃ d : AAr, cs = d.cells ∧ d.ok := by
  obtain ⟨xs, n, _, hx, _, hlen, h⟩ := DataW.trod_struct Try.underlying55 hf
  match cs, hl, xs, hlen with
  | [c0, c1, c2, c3, c4], _, [x0, x1, x2, x3], _ =>
    have z0 : Try.prog.cellsOf 31 = 2 := by kernel_rfl
    have z1 : Try.prog.cellsOf 4 = 1 := by kernel_rfl
    have z2 : Try.prog.cellsOf 3 = 1 := by kernel_rfl
    have h0 := h 0 _ rfl
    simp [z2] at h0
    obtain ⟨a0, e0, _, g0⟩ := DataW.trod_int Try.underlying3 h0
    simp only [List.cons.injEq, and_true] at e0
    subst e0
    have h1 := h 1 _ rfl
    simp [z2] at h1
    obtain ⟨a1, e1, _, g1⟩ := DataW.trod_int Try.underlying3 h1
    simp only [List.cons.injEq, and_true] at e1
    subst e1
    have h2 := h 2 _ rfl
    simp [z0] at h2
    obtain ⟨a2, e2, -⟩ := trod_ARt h2 rfl
    have h3 := h 3 _ rfl
    simp [z1] at h3
    obtain ⟨a3, e3, _⟩ := DataW.trod_bool Try.underlying4 h3
    simp only [List.cons.injEq, and_true] at e3
    subst e3
    simp only [ARt.cells, List.cons.injEq, and_true] at e2
    obtain ⟨rfl, rfl⟩ := e2
    exact ⟨⟨a0, a1, a2.w, a2.x, a3⟩, rfl, ⟨(bounds_i64 g0), (bounds_i64 g1)⟩⟩

theorem open_AAr {r : Reach} {b0 : Nat} {v : Value} {d : DataW H} {ps : List MemPlace} (hval : Value.okWide Try.prog w r b0 55 v) (hd : DataW.Trod enc Try.prog w base spare held 55 v d ps) :
    ∃ a : AAr, v = .agg a.cells.toArray ∧ a.ok := by
  obtain ⟨cs, rfl, hs⟩ := okWide_struct Try.underlying55 hval
  rw [cellsOf_AAr] at hs
  obtain ⟨l⟩ := cs
  obtain ⟨fuel, hf⟩ := hd
  obtain ⟨a, e, h⟩ := trod_AAr (cs := l) (by simpa [Value.cells] using hf) (by simpa using hs)
  exact ⟨a, by rw [e], h⟩
end

theorem AAr.cells_eq (d : AAr) : d.cells = [.int .i64 d.a, .int .i64 d.b, .bool d.w, .bool d.x, .bool d.h] := rfl
theorem AAr.one (d : AAr) : ∀ u ∈ d.cells, u.oneCell' = true := by
  intro u hu
  rw [AAr.cells_eq] at hu
  simp only [List.mem_cons, List.not_mem_nil, or_false] at hu
  rcases hu with rfl | rfl | rfl | rfl | rfl <;> rfl
def rAAr : Rec AAr := ⟨55, 5, 24, AAr.zero, AAr.cells, AAr.len, by decide, AAr.one⟩
theorem AAr.kin : Kin Try.prog rAAr 51 := Kin.of (z := .agg #[.int .i64 0, .int .i64 0, .bool false, .bool false, .bool false]) Try.underlying51 (by kernel_rfl) rfl
theorem AAr.at {w : World} {b o : Nat} {d : AAr} (h : At rAAr w b o d) : w.cell? ⟨b, o, none⟩ = some (.int .i64 d.a) ∧ w.cell? ⟨b, o + 1, none⟩ = some (.int .i64 d.b) ∧ w.cell? ⟨b, o + 2, none⟩ = some (.bool d.w) ∧ w.cell? ⟨b, o + 3, none⟩ = some (.bool d.x) ∧ w.cell? ⟨b, o + 4, none⟩ = some (.bool d.h) :=
  ⟨h 0 (by decide), h 1 (by decide), h 2 (by decide), h 3 (by decide), h 4 (by decide)⟩
def AAr.arr (d : AAr) : Array Value := #[.int .i64 d.a, .int .i64 d.b, .bool d.w, .bool d.x, .bool d.h]
theorem AAr.laid {w : World} {b : Nat} {d : AAr} (h : Laid w b 55 d.arr) : w.cell? ⟨b, 0, none⟩ = some (.int .i64 d.a) ∧ w.cell? ⟨b, 1, none⟩ = some (.int .i64 d.b) ∧ w.cell? ⟨b, 2, none⟩ = some (.bool d.w) ∧ w.cell? ⟨b, 3, none⟩ = some (.bool d.x) ∧ w.cell? ⟨b, 4, none⟩ = some (.bool d.h) :=
  ⟨h.cell 0, h.cell 1, h.cell 2, h.cell 3, h.cell 4⟩
theorem AAr.lst {w W : World} {ao : Option Addr} {len : Nat} {D : Nat → AAr} (h : Lst AAr.cells AAr.ok 5 w ao len D) (hb : Below w.heap.size w W) {i : Nat} (hi : i < len) : ∃ b off, ao = some ⟨b, off, none⟩ ∧ b < w.heap.size ∧ (D i).ok ∧ At rAAr W b (off + i * 5) (D i) := by
  obtain ⟨b, off, e, hlt, hall⟩ := h.at hi
  obtain ⟨hok, hc⟩ := hall i hi
  exact ⟨b, off, e, hlt, hok, fun j hj => ((bcell hb).1 b _ hlt).trans (hc j hj)⟩
end Go.Proofs.Ytoimmapdkapheaa
