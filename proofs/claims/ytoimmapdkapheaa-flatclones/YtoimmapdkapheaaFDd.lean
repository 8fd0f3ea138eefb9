/- FDd: a struct paviorlaw10.Deed as it lies in cells, and what a reading of it gives. -/
import Derived.Test.YtoimmapdkapheaaARt
import Derived.Test.YtoimmapdkapheaaZRow2
namespace Go.Proofs.Ytoimmapdkapheaa
set_option maxRecDepth 4000
open Go.ChangeShapes Go.WideShapes Go.ChangeAt Go.RowKit Go.Deep

structure FDd where
  what : Int
  space : Int
  other : Int
  from_ : Int
  to_ : Int
  rt : ARt
  huge : Bool
  i : Int
  v : Nat
def FDd.zero : FDd := ⟨0, 0, 0, 0, 0, ARt.zero, false, 0, 0⟩
def FDd.cells (d : FDd) : List Value := [.int .i64 d.what] ++ [.int .i64 d.space] ++ [.int .i64 d.other] ++ [.int .i64 d.from_] ++ [.int .i64 d.to_] ++ ARt.cells d.rt ++ [.bool d.huge] ++ [.int .i64 d.i] ++ [.int .u64 d.v]
def FDd.ok (d : FDd) : Prop := (-9223372036854775808 ≤ d.what ∧ d.what ≤ 9223372036854775807) ∧ (-9223372036854775808 ≤ d.space ∧ d.space ≤ 9223372036854775807) ∧ (-9223372036854775808 ≤ d.other ∧ d.other ≤ 9223372036854775807) ∧ (-9223372036854775808 ≤ d.from_ ∧ d.from_ ≤ 9223372036854775807) ∧ (-9223372036854775808 ≤ d.to_ ∧ d.to_ ≤ 9223372036854775807) ∧ ARt.ok d.rt ∧ (-9223372036854775808 ≤ d.i ∧ d.i ≤ 9223372036854775807) ∧ (d.v ≤ 18446744073709551615)
theorem FDd.len (d : FDd) : d.cells.length = 10 := by simp [FDd.cells, ARt.len]
theorem cellsOf_FDd : Try.prog.cellsOf 34 = 10 := by kernel_rfl

section
variable {H : Type} {enc : TypeId × Value → H} {w : World} {base : Nat} {spare : Nat → Bool} {held : Bool}
theorem trod_FDd {fuel : Nat} {cs : List Value} {x : DataW H × List MemPlace} (hf : DataW.trod enc Try.prog w base spare held fuel 34 cs = some x) (hl : cs.length = 10) : ∃ d : FDd, cs = d.cells ∧ d.ok := by
  obtain ⟨xs, n, _, hx, _, hlen, h⟩ := DataW.trod_struct Try.underlying34 hf
  match cs, hl, xs, hlen with
  | [c0, c1, c2, c3, c4, c5, c6, c7, c8, c9], _, [x0, x1, x2, x3, x4, x5, x6, x7, x8], _ =>
    have z0 : Try.prog.cellsOf 31 = 2 := by kernel_rfl
    have z1 : Try.prog.cellsOf 4 = 1 := by kernel_rfl
    have z2 : Try.prog.cellsOf 3 = 1 := by kernel_rfl
    have z3 : Try.prog.cellsOf 32 = 1 := by kernel_rfl
    have h0 := h 0 _ rfl
    simp [z2] at h0
    obtain ⟨a0, e0, _, g0⟩ := DataW.trod_int Try.underlying3 h0
    simp only [List.cons.injEq, and_true] at e0
    subst e0
    have h1 := h 1 _ rfl
    simp [z2] at h1
    obtain ⟨a1, e1, _, g1⟩ := DataW.trod_int Try.underlying3 h1
    simp only [List.cons.injEq, and_true] at e1
    subst e1
    have h2 := h 2 _ rfl
    simp [z2] at h2
    obtain ⟨a2, e2, _, g2⟩ := DataW.trod_int Try.underlying3 h2
    simp only [List.cons.injEq, and_true] at e2
    subst e2
    have h3 := h 3 _ rfl
    simp [z2] at h3
    obtain ⟨a3, e3, _, g3⟩ := DataW.trod_int Try.underlying3 h3
    simp only [List.cons.injEq, and_true] at e3
    subst e3
    have h4 := h 4 _ rfl
    simp [z2] at h4
    obtain ⟨a4, e4, _, g4⟩ := DataW.trod_int Try.underlying3 h4
    simp only [List.cons.injEq, and_true] at e4
    subst e4
    have h5 := h 5 _ rfl
    simp [z0] at h5
    obtain ⟨a5, e5, g5⟩ := trod_ARt h5 rfl
    have h6 := h 6 _ rfl
    simp [z1] at h6
    obtain ⟨a6, e6, _⟩ := DataW.trod_bool Try.underlying4 h6
    simp only [List.cons.injEq, and_true] at e6
    subst e6
    have h7 := h 7 _ rfl
    simp [z2] at h7
    obtain ⟨a7, e7, _, g7⟩ := DataW.trod_int Try.underlying3 h7
    simp only [List.cons.injEq, and_true] at e7
    subst e7
    have h8 := h 8 _ rfl
    simp [z3] at h8
    obtain ⟨a8, e8, _, g8⟩ := DataW.trod_int Try.underlying32 h8
    simp only [List.cons.injEq, and_true] at e8
    subst e8
    have b8 := bounds_u64 g8
    obtain ⟨m8, rfl⟩ : ∃ m : Nat, a8 = m := ⟨a8.toNat, by omega⟩
    refine ⟨⟨a0, a1, a2, a3, a4, a5, a6, a7, m8⟩, ?_, ⟨(bounds_i64 g0), (bounds_i64 g1), (bounds_i64 g2), (bounds_i64 g3), (bounds_i64 g4), g5, (bounds_i64 g7), (by show m8 ≤ 18446744073709551615; omega)⟩⟩
    simp only [FDd.cells, ← e5, List.cons_append, List.nil_append]

theorem open_FDd {r : Reach} {b0 : Nat} {v : Value} {d : DataW H} {ps : List MemPlace} (hval : Value.okWide Try.prog w r b0 34 v) (hd : DataW.Trod enc Try.prog w base spare held 34 v d ps) :
    ∃ a : FDd, v = .agg a.cells.toArray ∧ a.ok := by
  obtain ⟨cs, rfl, hs⟩ := okWide_struct Try.underlying34 hval
  rw [cellsOf_FDd] at hs
  obtain ⟨l⟩ := cs
  obtain ⟨fuel, hf⟩ := hd
  obtain ⟨a, e, h⟩ := trod_FDd (cs := l) (by simpa [Value.cells] using hf) (by simpa using hs)
  exact ⟨a, by rw [e], h⟩
end

theorem FDd.cells_eq (d : FDd) : d.cells = [.int .i64 d.what, .int .i64 d.space, .int .i64 d.other, .int .i64 d.from_, .int .i64 d.to_, .bool d.rt.w, .bool d.rt.x, .bool d.huge, .int .i64 d.i, .int .u64 d.v] := rfl
theorem FDd.one (d : FDd) : ∀ u ∈ d.cells, u.oneCell' = true := by
  intro u hu
  rw [FDd.cells_eq] at hu
  simp only [List.mem_cons, List.not_mem_nil, or_false] at hu
  rcases hu with rfl | rfl | rfl | rfl | rfl | rfl | rfl | rfl | rfl | rfl <;> rfl
def rFDd : Rec FDd := ⟨34, 10, 64, FDd.zero, FDd.cells, FDd.len, by decide, FDd.one⟩
theorem FDd.kin : Kin Try.prog rFDd 22 := Kin.of (z := .agg #[.int .i64 0, .int .i64 0, .int .i64 0, .int .i64 0, .int .i64 0, .bool false, .bool false, .bool false, .int .i64 0, .int .u64 0]) Try.underlying22 (by kernel_rfl) rfl
theorem FDd.at {w : World} {b o : Nat} {d : FDd} (h : At rFDd w b o d) : w.cell? ⟨b, o, none⟩ = some (.int .i64 d.what) ∧ w.cell? ⟨b, o + 1, none⟩ = some (.int .i64 d.space) ∧ w.cell? ⟨b, o + 2, none⟩ = some (.int .i64 d.other) ∧ w.cell? ⟨b, o + 3, none⟩ = some (.int .i64 d.from_) ∧ w.cell? ⟨b, o + 4, none⟩ = some (.int .i64 d.to_) ∧ w.cell? ⟨b, o + 5, none⟩ = some (.bool d.rt.w) ∧ w.cell? ⟨b, o + 6, none⟩ = some (.bool d.rt.x) ∧ w.cell? ⟨b, o + 7, none⟩ = some (.bool d.huge) ∧ w.cell? ⟨b, o + 8, none⟩ = some (.int .i64 d.i) ∧ w.cell? ⟨b, o + 9, none⟩ = some (.int .u64 d.v) :=
  ⟨h 0 (by decide), h 1 (by decide), h 2 (by decide), h 3 (by decide), h 4 (by decide), h 5 (by decide), h 6 (by decide), h 7 (by decide), h 8 (by decide), h 9 (by decide)⟩
def FDd.arr (d : FDd) : Array Value := #[.int .i64 d.what, .int .i64 d.space, .int .i64 d.other, .int .i64 d.from_, .int .i64 d.to_, .bool d.rt.w, .bool d.rt.x, .bool d.huge, .int .i64 d.i, .int .u64 d.v]
theorem FDd.laid {w : World} {b : Nat} {d : FDd} (h : Laid w b 34 d.arr) : w.cell? ⟨b, 0, none⟩ = some (.int .i64 d.what) ∧ w.cell? ⟨b, 1, none⟩ = some (.int .i64 d.space) ∧ w.cell? ⟨b, 2, none⟩ = some (.int .i64 d.other) ∧ w.cell? ⟨b, 3, none⟩ = some (.int .i64 d.from_) ∧ w.cell? ⟨b, 4, none⟩ = some (.int .i64 d.to_) ∧ w.cell? ⟨b, 5, none⟩ = some (.bool d.rt.w) ∧ w.cell? ⟨b, 6, none⟩ = some (.bool d.rt.x) ∧ w.cell? ⟨b, 7, none⟩ = some (.bool d.huge) ∧ w.cell? ⟨b, 8, none⟩ = some (.int .i64 d.i) ∧ w.cell? ⟨b, 9, none⟩ = some (.int .u64 d.v) :=
  ⟨h.cell 0, h.cell 1, h.cell 2, h.cell 3, h.cell 4, h.cell 5, h.cell 6, h.cell 7, h.cell 8, h.cell 9⟩
theorem FDd.lst {w W : World} {ao : Option Addr} {len : Nat} {D : Nat → FDd} (h : Lst FDd.cells FDd.ok 10 w ao len D) (hb : Below w.heap.size w W) {i : Nat} (hi : i < len) : ∃ b off, ao = some ⟨b, off, none⟩ ∧ b < w.heap.size ∧ (D i).ok ∧ At rFDd W b (off + i * 10) (D i) := by
  obtain ⟨b, off, e, hlt, hall⟩ := h.at hi
  obtain ⟨hok, hc⟩ := hall i hi
  exact ⟨b, off, e, hlt, hok, fun j hj => ((bcell hb).1 b _ hlt).trans (hc j hj)⟩
end Go.Proofs.Ytoimmapdkapheaa
