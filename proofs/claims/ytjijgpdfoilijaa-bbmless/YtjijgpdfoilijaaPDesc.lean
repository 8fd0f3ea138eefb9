/- A descriptor that comes in as an argument: opened, and shut again. -/
import Derived.Test.YtjijgpdfoilijaaPSays
import Derived.ProofKit
import Derived.OpenShut
namespace Go.Proofs.Ytjijgpdfoilijaa
open Go.ChangeShapes Go.WideShapes Go.ChangeAt Go.RowKit

def datD {H : Type} (a : Dsc) : DataW H := .agg [.lit (.int .i64 a.kind), .lit (.int .i64 a.frame), .lit (.bool a.wr), .lit (.bool a.ex), .lit (.bool a.sn), .lit (.bool a.fo), .lit (.int .i64 a.so)]
def wfD (a : Dsc) : Prop := (Lit.int .i64 a.kind).wf = true ∧ (Lit.int .i64 a.frame).wf = true ∧ (Lit.int .i64 a.so).wf = true

theorem cells_desc : Try.prog.cellsOf 37 = 7 := by kernel_rfl
theorem cells_int : Try.prog.cellsOf 3 = 1 := by kernel_rfl
theorem cells_bool : Try.prog.cellsOf 4 = 1 := by kernel_rfl

section
variable {H : Type} {enc : TypeId × Value → H} {w : World} {base : Nat} {spare : Nat → Bool} {held : Bool}

theorem open_desc {r : Reach} {b0 : Nat} {v : Value} {d : DataW H} {ps : List MemPlace} (hval : Value.okWide Try.prog w r b0 37 v) (hd : DataW.Trod enc Try.prog w base spare held 37 v d ps) :
    ∃ a : Dsc, v = dv a ∧ d = datD a ∧ ps = [] ∧ wfD a := by
  obtain ⟨cs, rfl, hs⟩ := okWide_struct Try.underlying37 hval
  rw [cells_desc] at hs
  obtain ⟨l⟩ := cs
  match l, hs with
  | [c0, c1, c2, c3, c4, c5, c6], _ =>
    obtain ⟨fuel, hf⟩ := hd
    obtain ⟨xs, n, _, hx, _, hlen, h⟩ := DataW.trod_struct Try.underlying37 hf
    match xs, hlen with
    | [x0, x1, x2, x3, x4, x5, x6], _ =>
      have h0 := h 0 _ rfl
      have h1 := h 1 _ rfl
      have h2 := h 2 _ rfl
      have h3 := h 3 _ rfl
      have h4 := h 4 _ rfl
      have h5 := h 5 _ rfl
      have h6 := h 6 _ rfl
      simp [Value.cells, cells_int, cells_bool] at h0 h1 h2 h3 h4 h5 h6
      obtain ⟨a0, e0, f0, g0⟩ := DataW.trod_int Try.underlying3 h0
      obtain ⟨a1, e1, f1, g1⟩ := DataW.trod_int Try.underlying3 h1
      obtain ⟨a2, e2, f2⟩ := DataW.trod_bool Try.underlying4 h2
      obtain ⟨a3, e3, f3⟩ := DataW.trod_bool Try.underlying4 h3
      obtain ⟨a4, e4, f4⟩ := DataW.trod_bool Try.underlying4 h4
      obtain ⟨a5, e5, f5⟩ := DataW.trod_bool Try.underlying4 h5
      obtain ⟨a6, e6, f6, g6⟩ := DataW.trod_int Try.underlying3 h6
      simp at e0 e1 e2 e3 e4 e5 e6
      subst e0 e1 e2 e3 e4 e5 e6 f0 f1 f2 f3 f4 f5 f6
      simp at hx
      exact ⟨⟨a0, a1, a2, a3, a4, a5, a6⟩, rfl, hx.1, hx.2, g0, g1, g6⟩

theorem shut_desc {a : Dsc} (h : wfD a) : DataW.Trod enc Try.prog w base spare held 37 (dv a) (datD a) [] := by
  obtain ⟨g0, g1, g6⟩ := h
  refine ⟨2, ?_⟩
  simp [DataW.trod, dv, Value.cells, Try.underlying37, Try.underlying3, Try.underlying4, cells_desc, cells_int, cells_bool, g0, g1, g6, datD]
end
end Go.Proofs.Ytjijgpdfoilijaa
