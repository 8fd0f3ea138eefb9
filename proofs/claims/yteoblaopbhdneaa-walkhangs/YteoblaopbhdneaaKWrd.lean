/- Wrd: a struct paviorlaw04.Laid as it lies in cells, and what a reading of it gives. -/
import Derived.Test.YteoblaopbhdneaaMArgs
namespace Go.Proofs.Yteoblaopbhdneaa
open Go.ChangeShapes Go.WideShapes Go.ChangeAt Go.RowKit Go.Deep

structure Wrd where
  fr : Int
  pl : Int
  wd : Nat
def Wrd.zero : Wrd := ⟨0, 0, 0⟩
def Wrd.cells (d : Wrd) : List Value := [.int .i64 d.fr, .int .i64 d.pl, .int .u64 d.wd]
def Wrd.ok (d : Wrd) : Prop := (-9223372036854775808 ≤ d.fr ∧ d.fr ≤ 9223372036854775807) ∧ (-9223372036854775808 ≤ d.pl ∧ d.pl ≤ 9223372036854775807) ∧ (d.wd ≤ 18446744073709551615)
theorem Wrd.len (d : Wrd) : d.cells.length = 3 := rfl
theorem cellsOf_Wrd : Try.prog.cellsOf 52 = 3 := by kernel_rfl

section
variable {H : Type} {enc : TypeId × Value → H} {w : World} {base : Nat} {spare : Nat → Bool} {held : Bool}
theorem trod_Wrd {fuel : Nat} {cs : List Value} {x : DataW H × List MemPlace} (hf : DataW.trod enc Try.prog w base spare held fuel 52 cs = some x) (hl : cs.length = 3) : ∃ d : Wrd, cs = d.cells ∧ d.ok := by
  obtain ⟨xs, n, _, hx, _, hlen, h⟩ := DataW.trod_struct Try.underlying52 hf
  match cs, hl, xs, hlen with
  | [c0, c1, c2], _, [x0, x1, x2], _ =>
    have z0 : Try.prog.cellsOf 3 = 1 := by kernel_rfl
    have z1 : Try.prog.cellsOf 50 = 1 := by kernel_rfl
    have h0 := h 0 _ rfl
    simp [z0] at h0
    obtain ⟨a0, e0, _, g0⟩ := DataW.trod_int Try.underlying3 h0
    simp only [List.cons.injEq, and_true] at e0
    subst e0
    have h1 := h 1 _ rfl
    simp [z0] at h1
    obtain ⟨a1, e1, _, g1⟩ := DataW.trod_int Try.underlying3 h1
    simp only [List.cons.injEq, and_true] at e1
    subst e1
    have h2 := h 2 _ rfl
    simp [z1] at h2
    obtain ⟨a2, e2, _, g2⟩ := DataW.trod_int Try.underlying50 h2
    simp only [List.cons.injEq, and_true] at e2
    subst e2
    have b2 := bounds_u64 g2
    obtain ⟨m2, rfl⟩ : ∃ m : Nat, a2 = m := ⟨a2.toNat, by omega⟩
    exact ⟨⟨a0, a1, m2⟩, rfl, ⟨(bounds_i64 g0), (bounds_i64 g1), (by show m2 ≤ 18446744073709551615; omega)⟩⟩

theorem open_Wrd {r : Reach} {b0 : Nat} {v : Value} {d : DataW H} {ps : List MemPlace} (hval : Value.okWide Try.prog w r b0 52 v) (hd : DataW.Trod enc Try.prog w base spare held 52 v d ps) :
    ∃ a : Wrd, v = .agg a.cells.toArray ∧ a.ok := by
  obtain ⟨cs, rfl, hs⟩ := okWide_struct Try.underlying52 hval
  rw [cellsOf_Wrd] at hs
  obtain ⟨l⟩ := cs
  obtain ⟨fuel, hf⟩ := hd
  obtain ⟨a, e, h⟩ := trod_Wrd (cs := l) (by simpa [Value.cells] using hf) (by simpa using hs)
  exact ⟨a, by rw [e], h⟩
end
end Go.Proofs.Yteoblaopbhdneaa
