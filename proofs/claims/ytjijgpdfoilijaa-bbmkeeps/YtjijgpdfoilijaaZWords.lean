/- An argument that is a slice of words. -/
import Derived.Test.YtjijgpdfoilijaaZArgs
namespace Go.Proofs.Ytjijgpdfoilijaa
open Go.ChangeShapes Go.WideShapes Go.ChangeAt Go.RowKit Go.Deep

def wcells (x : Int) : List Value := [.int .u64 x]
def wok (x : Int) : Prop := 0 ≤ x ∧ x ≤ 18446744073709551615
theorem open_words {H : Type} {enc : TypeId × Value → H} {w : World} {r : Reach} {b0 : Nat} {v : Value} {d : DataW H} {ps : List MemPlace} (hval : Value.okWide Try.prog w r b0 22 v) (hd : DataW.Trod enc Try.prog w 0 (fun _ => true) true 22 v d ps) :
    ∃ ao len cap D, v = .slice ao len cap ∧ len ≤ maxLen ∧ Lst wcells wok 1 w ao len D := by
  refine open_list 0 wcells wok 1 Try.underlying22 (by kernel_rfl) (by omega) (fun _ => rfl) ?_ hval hd
  intro fuel cs x h hl
  match cs, hl with
  | [c], _ =>
    obtain ⟨a, e, _, g⟩ := DataW.trod_int Try.underlying27 h
    refine ⟨a, by simpa [wcells] using e, bounds_u64 g⟩
theorem Lst.word {W : World} {ao : Option Addr} {len : Nat} {D : Nat → Int} (h : Lst wcells wok 1 W ao len D) {i : Nat} (hi : i < len) : ∃ b off, ao = some ⟨b, off, none⟩ ∧ W.cell? ⟨b, off + i, none⟩ = some (.int .u64 (D i)) ∧ 0 ≤ D i ∧ D i ≤ 18446744073709551615 := by
  obtain ⟨b, off, e, _, h⟩ := h.at hi
  obtain ⟨h1, h2⟩ := h i hi
  have := h2 0 (by omega)
  simp only [Nat.mul_one, Nat.add_zero] at this
  exact ⟨b, off, e, this, h1⟩
end Go.Proofs.Ytjijgpdfoilijaa
