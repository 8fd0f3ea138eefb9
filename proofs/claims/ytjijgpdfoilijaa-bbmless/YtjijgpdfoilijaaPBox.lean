/- A descriptor that lies in memory as a variable of its own: what is known of its cells, kept through calls that make memory alone. -/
import Derived.Test.YtjijgpdfoilijaaPEnc
namespace Go.Proofs.Ytjijgpdfoilijaa
open Go.RowKit

def Box (w : World) (b : Nat) (d : Dsc) : Prop := b < w.heap.size ∧ w.cell? ⟨b, 0, none⟩ = some (.int .i64 d.kind) ∧ w.cell? ⟨b, 1, none⟩ = some (.int .i64 d.frame) ∧ w.cell? ⟨b, 2, none⟩ = some (.bool d.wr) ∧
  w.cell? ⟨b, 3, none⟩ = some (.bool d.ex) ∧ w.cell? ⟨b, 4, none⟩ = some (.bool d.sn) ∧ w.cell? ⟨b, 5, none⟩ = some (.bool d.fo) ∧ w.cell? ⟨b, 6, none⟩ = some (.int .i64 d.so)

/-- The cells of a descriptor. -/
def dcells (d : Dsc) : Array Value := #[.int .i64 d.kind, .int .i64 d.frame, .bool d.wr, .bool d.ex, .bool d.sn, .bool d.fo, .int .i64 d.so]
theorem Box.new (w : World) (d : Dsc) : Box (w.alloc (.cells #[.int .i64 d.kind, .int .i64 d.frame, .bool d.wr, .bool d.ex, .bool d.sn, .bool d.fo, .int .i64 d.so] 37)) w.heap.size d := by
  refine ⟨by simp, ?_, ?_, ?_, ?_, ?_, ?_, ?_⟩ <;> simp
theorem Box.old {w : World} {b : Nat} {d : Dsc} (h : Box w b d) (v : Obj) : Box (w.alloc v) b d := by
  obtain ⟨h0, h⟩ := h
  refine ⟨by simp; omega, ?_⟩
  simp only [cell_alloc_old h0]
  exact h
theorem Box.below {W w1 : World} {b : Nat} {d : Dsc} (h : Box W b d) (hb : Below W.heap.size W w1) : Box w1 b d := by
  obtain ⟨h0, h⟩ := h
  have := hb.size
  refine ⟨by omega, ?_⟩
  simp only [(bcell hb).1 b _ h0]
  exact h
theorem Box.rules {w : World} {b : Nat} {d : Dsc} (h : Box w b d) : (∀ o v, (w.alloc v).cell? ⟨b, o, none⟩ = w.cell? ⟨b, o, none⟩) ∧ w.cell? ⟨b, 0, none⟩ = some (.int .i64 d.kind) ∧ w.cell? ⟨b, 1, none⟩ = some (.int .i64 d.frame) ∧ w.cell? ⟨b, 2, none⟩ = some (.bool d.wr) ∧
    w.cell? ⟨b, 3, none⟩ = some (.bool d.ex) ∧ w.cell? ⟨b, 4, none⟩ = some (.bool d.sn) ∧ w.cell? ⟨b, 5, none⟩ = some (.bool d.fo) ∧ w.cell? ⟨b, 6, none⟩ = some (.int .i64 d.so) :=
  ⟨fun o v => cell_alloc_old h.1 o v, h.2⟩
end Go.Proofs.Ytjijgpdfoilijaa
