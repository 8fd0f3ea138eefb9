/- APg: a struct paviorref09.Page as it lies in cells, and what a reading of it gives. -/
import Derived.Test.YtoimmapdkapheaaZArgs
import Derived.Test.YtoimmapdkapheaaZRow2
namespace Go.Proofs.Ytoimmapdkapheaa
set_option maxRecDepth 4000
open Go.ChangeShapes Go.WideShapes Go.ChangeAt Go.RowKit Go.Deep

structure APg where
  is : Bool
  w : Bool
  x : Bool
  h : Bool
def APg.zero : APg := ⟨false, false, false, false⟩
def APg.cells (d : APg) : List Value := [.bool d.is, .bool d.w, .bool d.x, .bool d.h]
def APg.ok (_ : APg) : Prop := True
theorem APg.len (d : APg) : d.cells.length = 4 := rfl
theorem cellsOf_APg : Try.prog.cellsOf 72 = 4 := by kernel_rfl

section
variable {H : Type} {enc : TypeId × Value → H} {w : World} {base : Nat} {spare : Nat → Bool} {held : Bool}
theorem trod_APg {fuel : Nat} {cs : List Value} {x : DataW H × List MemPlace} (hf : DataW.trod enc Try.prog w base spare held fuel 72 cs = some x) (hl : cs.length = 4) : ∃ d : APg, cs = d.cells ∧ d.ok := by
  obtain ⟨xs, n, _, hx, _, hlen, h⟩ := DataW.trod_struct Try.underlying72 hf
  match cs, hl, xs, hlen with
  | [c0, c1, c2, c3], _, [x0, x1, x2, x3], _ =>
    have z0 : Try.prog.cellsOf 4 = 1 := by kernel_rfl
    have h0 := h 0 _ rfl
    simp [z0] at h0
    obtain ⟨a0, e0, _⟩ := DataW.trod_bool Try.underlying4 h0
    simp only [List.cons.injEq, and_true] at e0
    subst e0
    have h1 := h 1 _ rfl
    simp [z0] at h1
    obtain ⟨a1, e1, _⟩ := DataW.trod_bool Try.underlying4 h1
    simp only [List.cons.injEq, and_true] at e1
    subst e1
    have h2 := h 2 _ rfl
    simp [z0] at h2
    obtain ⟨a2, e2, _⟩ := DataW.trod_bool Try.underlying4 h2
    simp only [List.cons.injEq, and_true] at e2
    subst e2
    have h3 := h 3 _ rfl
    simp [z0] at h3
    obtain ⟨a3, e3, _⟩ := DataW.trod_bool Try.underlying4 h3
    simp only [List.cons.injEq, and_true] at e3
    subst e3
    exact ⟨⟨a0, a1, a2, a3⟩, rfl, trivial⟩

theorem open_APg {r : Reach} {b0 : Nat} {v : Value} {d : DataW H} {ps : List MemPlace} (hval : Value.okWide Try.prog w r b0 72 v) (hd : DataW.Trod enc Try.prog w base spare held 72 v d ps) :
    ∃ a : APg, v = .agg a.cells.toArray ∧ a.ok := by
  obtain ⟨cs, rfl, hs⟩ := okWide_struct Try.underlying72 hval
  rw [cellsOf_APg] at hs
  obtain ⟨l⟩ := cs
  obtain ⟨fuel, hf⟩ := hd
  obtain ⟨a, e, h⟩ := trod_APg (cs := l) (by simpa [Value.cells] using hf) (by simpa using hs)
  exact ⟨a, by rw [e], h⟩
end

theorem APg.cells_eq (d : APg) : d.cells = [.bool d.is, .bool d.w, .bool d.x, .bool d.h] := rfl
theorem APg.one (d : APg) : ∀ u ∈ d.cells, u.oneCell' = true := by
  intro u hu
  rw [APg.cells_eq] at hu
  simp only [List.mem_cons, List.not_mem_nil, or_false] at hu
  rcases hu with rfl | rfl | rfl | rfl <;> rfl
def rAPg : Rec APg := ⟨72, 4, 4, APg.zero, APg.cells, APg.len, by decide, APg.one⟩
theorem APg.kin : Kin Try.prog rAPg 56 := Kin.of (z := .agg #[.bool false, .bool false, .bool false, .bool false]) Try.underlying56 (by kernel_rfl) rfl
theorem APg.at {w : World} {b o : Nat} {d : APg} (h : At rAPg w b o d) : w.cell? ⟨b, o, none⟩ = some (.bool d.is) ∧ w.cell? ⟨b, o + 1, none⟩ = some (.bool d.w) ∧ w.cell? ⟨b, o + 2, none⟩ = some (.bool d.x) ∧ w.cell? ⟨b, o + 3, none⟩ = some (.bool d.h) :=
  ⟨h 0 (by decide), h 1 (by decide), h 2 (by decide), h 3 (by decide)⟩
def APg.arr (d : APg) : Array Value := #[.bool d.is, .bool d.w, .bool d.x, .bool d.h]
theorem APg.laid {w : World} {b : Nat} {d : APg} (h : Laid w b 72 d.arr) : w.cell? ⟨b, 0, none⟩ = some (.bool d.is) ∧ w.cell? ⟨b, 1, none⟩ = some (.bool d.w) ∧ w.cell? ⟨b, 2, none⟩ = some (.bool d.x) ∧ w.cell? ⟨b, 3, none⟩ = some (.bool d.h) :=
  ⟨h.cell 0, h.cell 1, h.cell 2, h.cell 3⟩
theorem APg.lst {w W : World} {ao : Option Addr} {len : Nat} {D : Nat → APg} (h : Lst APg.cells APg.ok 4 w ao len D) (hb : Below w.heap.size w W) {i : Nat} (hi : i < len) : ∃ b off, ao = some ⟨b, off, none⟩ ∧ b < w.heap.size ∧ (D i).ok ∧ At rAPg W b (off + i * 4) (D i) := by
  obtain ⟨b, off, e, hlt, hall⟩ := h.at hi
  obtain ⟨hok, hc⟩ := hall i hi
  exact ⟨b, off, e, hlt, hok, fun j hj => ((bcell hb).1 b _ hlt).trans (hc j hj)⟩
end Go.Proofs.Ytoimmapdkapheaa
