/- A list of Found as it lies. -/
import Derived.Test.YteoblaopbhdneaaKRefWhole
namespace Go.Proofs.Yteoblaopbhdneaa
open Go.RowKit

theorem fcs_at : ∀ (L : List Fnd) (k j : Nat), k < L.length → j < 11 → (fcs L)[k * 11 + j]? = (fcells (L.getD k nilF))[j]? := by
  intro L
  induction L with
  | nil => intro k j hk; simp at hk
  | cons x L ih =>
    intro k j hk hj
    have e : fcs (x :: L) = (fcells x).toList ++ fcs L := by simp [fcs]
    have hl : (fcells x).toList.length = 11 := rfl
    rw [e]
    cases k with
    | zero =>
      rw [List.getElem?_append_left (by rw [hl]; omega)]
      simp
    | succ k =>
      rw [List.getElem?_append_right (by rw [hl]; omega), hl, show (k + 1) * 11 + j - 11 = k * 11 + j by omega, ih k j (by simpa using hk) hj]
      simp

/-- The cells of a list of Found. -/
def FRow (w : World) (ao : Option Addr) (L : List Fnd) : Prop := L.length = 0 ∨ ∃ g, ao = some ⟨g, 0, none⟩ ∧ g < w.heap.size ∧ ∀ k, k < L.length → ∀ j, j < 11 → w.cell? ⟨g, k * 11 + j, none⟩ = (fcells (L.getD k nilF))[j]?
theorem FRow.below {w w' : World} {ao : Option Addr} {L : List Fnd} (h : FRow w ao L) (hb : Below w.heap.size w w') : FRow w' ao L := by
  rcases h with h | ⟨g, e, hg, h⟩
  · exact Or.inl h
  · exact Or.inr ⟨g, e, Nat.lt_of_lt_of_le hg hb.size, fun k hk j hj => (hb.cell (p := ⟨g, k * 11 + j, none⟩) hg).trans (h k hk j hj)⟩
theorem own_form {w : World} {B : Nat} {v : Value} {L : List Fnd} (h : w.ownsRow B 37 11 v L.length (fcs L)) : ∃ ao cap, v = .slice ao L.length cap ∧ FRow w ao L := by
  rcases h.2 with ⟨rfl, h0⟩ | ⟨g, cap, cur, rfl, hb, hg, h1, h2, h3, ht⟩
  · exact ⟨none, 0, by rw [h0], Or.inl h0⟩
  · refine ⟨_, cap, rfl, Or.inr ⟨g, rfl, (Array.getElem?_eq_some_iff.1 hg).1, fun k hk j hj => ?_⟩⟩
    rw [cell_of_row w g _ cur _ _ hg, ← fcs_at L k j hk hj, ← ht, List.getElem?_take_of_lt (by omega), Array.getElem?_toList]
theorem FRow.at {w : World} {ao : Option Addr} {L : List Fnd} (h : FRow w ao L) (k : Nat) (hk : k < L.length) : ∃ g, ao = some ⟨g, 0, none⟩ ∧ g < w.heap.size ∧ (∀ j, j < 11 → w.cell? ⟨g, k * 11 + j, none⟩ = (fcells (L.getD k nilF))[j]?) := by
  rcases h with h | ⟨g, e, hg, h⟩
  · omega
  · exact ⟨g, e, hg, h k hk⟩
/-- Eleven cells in a row. -/
theorem row_cells {w : World} {g o : Nat} {x : Fnd} (h : ∀ j, j < 11 → w.cell? ⟨g, o + j, none⟩ = (fcells x)[j]?) : w.cell? ⟨g, o, none⟩ = some (.int .i64 x.kind) ∧ w.cell? ⟨g, o + 1, none⟩ = some (.int .i64 x.level) ∧ w.cell? ⟨g, o + 2, none⟩ = some (.int .i64 x.table) ∧ w.cell? ⟨g, o + 3, none⟩ = some (.int .i64 x.place) ∧
    w.cell? ⟨g, o + 4, none⟩ = some (.int .i64 x.frame) ∧ w.cell? ⟨g, o + 5, none⟩ = some (.int .i64 x.order) ∧ w.cell? ⟨g, o + 6, none⟩ = some (.int .i64 x.first) ∧ w.cell? ⟨g, o + 7, none⟩ = some (.int .i64 x.base) ∧ w.cell? ⟨g, o + 8, none⟩ = some (.bool x.wr) ∧ w.cell? ⟨g, o + 9, none⟩ = some (.bool x.ex) ∧ w.cell? ⟨g, o + 10, none⟩ = some (.bool x.sn) :=
  ⟨h 0 (by omega), h 1 (by omega), h 2 (by omega), h 3 (by omega), h 4 (by omega), h 5 (by omega), h 6 (by omega), h 7 (by omega), h 8 (by omega), h 9 (by omega), h 10 (by omega)⟩
end Go.Proofs.Yteoblaopbhdneaa
