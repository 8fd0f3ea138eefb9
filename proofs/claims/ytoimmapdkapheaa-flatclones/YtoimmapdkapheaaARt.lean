/- ARt: a struct api.Rights as it lies in cells, and what a reading of it gives. -/
import Derived.Test.YtoimmapdkapheaaZArgs
import Derived.Test.YtoimmapdkapheaaZRow2
namespace Go.Proofs.Ytoimmapdkapheaa
set_option maxRecDepth 4000
open Go.ChangeShapes Go.WideShapes Go.ChangeAt Go.RowKit Go.Deep

structure ARt where
  w : Bool
  x : Bool
def ARt.zero : ARt := ⟨false, false⟩
def ARt.cells (d : ARt) : List Value := [.bool d.w, .bool d.x]
def ARt.ok (_ : ARt) : Prop := True
theorem ARt.len (d : ARt) : d.cells.length = 2 := rfl
theorem cellsOf_ARt : Try.prog.cellsOf 31 = 2 := by kernel_rfl

section
variable {H : Type} {enc : TypeId × Value → H} {w : World} {base : Nat} {spare : Nat → Bool} {held : Bool}
theorem trod_ARt {fuel : Nat} {cs : List Value} {x : DataW H × List MemPlace} (hf : DataW.trod enc Try.prog w base spare held fuel 31 cs = some x) (hl : cs.length = 2) : ∃ d : ARt, cs = d.cells ∧ d.ok := by
  obtain ⟨xs, n, _, hx, _, hlen, h⟩ := DataW.trod_struct Try.underlying31 hf
  match cs, hl, xs, hlen with
  | [c0, c1], _, [x0, x1], _ =>
    have z0 : Try.prog.cellsOf 4 = 1 := by kernel_rfl
    have h0 := h 0 _ rfl
    simp [z0] at h0
    obtain ⟨a0, e0, _⟩ := DataW.trod_bool Try.underlying4 h0
    simp only [List.cons.injEq, and_true] at e0
    subst e0
    have h1 := h 1 _ rfl
    simp [z0] at h1
    obtain ⟨a1, e1, _⟩ := DataW.trod_bool Try.underlying4 h1
    simp only [List.cons.injEq, and_true] at e1
    subst e1
    exact ⟨⟨a0, a1⟩, rfl, trivial⟩

theorem open_ARt {r : Reach} {b0 : Nat} {v : Value} {d : DataW H} {ps : List MemPlace} (hval : Value.okWide Try.prog w r b0 31 v) (hd : DataW.Trod enc Try.prog w base spare held 31 v d ps) :
    ∃ a : ARt, v = .agg a.cells.toArray ∧ a.ok := by
  obtain ⟨cs, rfl, hs⟩ := okWide_struct Try.underlying31 hval
  rw [cellsOf_ARt] at hs
  obtain ⟨l⟩ := cs
  obtain ⟨fuel, hf⟩ := hd
  obtain ⟨a, e, h⟩ := trod_ARt (cs := l) (by simpa [Value.cells] using hf) (by simpa using hs)
  exact ⟨a, by rw [e], h⟩
end

theorem ARt.cells_eq (d : ARt) : d.cells = [.bool d.w, .bool d.x] := rfl
theorem ARt.one (d : ARt) : ∀ u ∈ d.cells, u.oneCell' = true := by
  intro u hu
  rw [ARt.cells_eq] at hu
  simp only [List.mem_cons, List.not_mem_nil, or_false] at hu
  rcases hu with rfl | rfl <;> rfl
def rARt : Rec ARt := ⟨31, 2, 2, ARt.zero, ARt.cells, ARt.len, by decide, ARt.one⟩
theorem ARt.at {w : World} {b o : Nat} {d : ARt} (h : At rARt w b o d) : w.cell? ⟨b, o, none⟩ = some (.bool d.w) ∧ w.cell? ⟨b, o + 1, none⟩ = some (.bool d.x) :=
  ⟨h 0 (by decide), h 1 (by decide)⟩
def ARt.arr (d : ARt) : Array Value := #[.bool d.w, .bool d.x]
theorem ARt.laid {w : World} {b : Nat} {d : ARt} (h : Laid w b 31 d.arr) : w.cell? ⟨b, 0, none⟩ = some (.bool d.w) ∧ w.cell? ⟨b, 1, none⟩ = some (.bool d.x) :=
  ⟨h.cell 0, h.cell 1⟩
theorem ARt.lst {w W : World} {ao : Option Addr} {len : Nat} {D : Nat → ARt} (h : Lst ARt.cells ARt.ok 2 w ao len D) (hb : Below w.heap.size w W) {i : Nat} (hi : i < len) : ∃ b off, ao = some ⟨b, off, none⟩ ∧ b < w.heap.size ∧ (D i).ok ∧ At rARt W b (off + i * 2) (D i) := by
  obtain ⟨b, off, e, hlt, hall⟩ := h.at hi
  obtain ⟨hok, hc⟩ := hall i hi
  exact ⟨b, off, e, hlt, hok, fun j hj => ((bcell hb).1 b _ hlt).trans (hc j hj)⟩
end Go.Proofs.Ytoimmapdkapheaa
