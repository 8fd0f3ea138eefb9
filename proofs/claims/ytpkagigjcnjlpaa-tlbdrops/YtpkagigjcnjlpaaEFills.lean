/- Many are filled in; rows beside a buffer. -/
import Derived.Test.YtpkagigjcnjlpaaEUp
namespace Go.Proofs.Ytpkagigjcnjlpaa
open Go.RowKit

/-- What a buffer holds behind n fills. -/
def fN (D : Nat → Ent) : Nat → List Ent × Bool
  | 0 => ([], false)
  | n + 1 => (fL (fN D n).1 (D n), fK (fN D n).1 (fN D n).2 (D n))

theorem Own.step {B : Nat} {w w' : World} {u v v' : Value} {l : List Ent} {p : Nat} (h : Own B w u l) (s : Step w w' p v v') (h1 : ∀ g, u.ownBlock = some g → g ≠ p ∧ some g ≠ v.ownBlock) : Own B w' u l := by
  refine ⟨h.1, ?_⟩
  rcases h.2 with h' | ⟨g, cap, cur, rfl, h2, h3, h4⟩
  · exact Or.inl h'
  · exact Or.inr ⟨g, cap, cur, rfl, h2, (s.block g (Array.getElem?_eq_some_iff.1 h3).1 (h1 g rfl).1 (h1 g rfl).2).trans h3, h4⟩
/-- A row that was made behind a buffer lies apart from it. -/
theorem Own.apart {B C : Nat} {w w0 : World} {u v : Value} {l l' : List Ent} {p : Nat} {k : Bool} (h : Own C w u l) (b : Buf B w0 p v l' k) (hC : w0.heap.size ≤ C) : ∀ g, u.ownBlock = some g → g ≠ p ∧ some g ≠ v.ownBlock := by
  intro g hg
  have h1 := (World.ownsRow.lt h g hg).1
  have h2 := b.ptr.lt
  refine ⟨by omega, fun e => ?_⟩
  have := (World.ownsRow.lt b.row g e.symm).2
  omega
theorem Buf.kept {B : Nat} {w w' : World} {p g : Nat} {v : Value} {l : List Ent} {k : Bool} (b : Buf B w p v l k) (hg : w.grownBy w' (some g)) (h : g ≠ p ∧ some g ≠ v.ownBlock) : Buf B w' p v l k :=
  ⟨b.base, b.ptr.kept hg (by simp; exact fun e => h.1 e.symm), b.row.kept hg (Or.inr fun e => h.2 e.symm), b.len, b.may⟩
theorem Own.lower {B B' : Nat} {w : World} {v : Value} {l : List Ent} (h : Own B w v l) (hB : B' ≤ B) : Own B' w v l := by
  refine ⟨h.1, ?_⟩
  rcases h.2 with h' | ⟨g, cap, cur, h1, h2, h3⟩
  · exact Or.inl h'
  · exact Or.inr ⟨g, cap, cur, h1, by omega, h3⟩
/-- The cells of one of a row. -/
theorem Own.at {B : Nat} {w : World} {ao : Option Addr} {n c : Nat} {l : List Ent} (h : Own B w (.slice ao n c) l) {j : Nat} (hj : j < l.length) : ∃ g, ao = some ⟨g, 0, none⟩ ∧ n = l.length ∧ w.cell? ⟨g, j * 6, none⟩ = some (.int .i64 (l.getD j Ent.zero).asid) ∧ w.cell? ⟨g, j * 6 + 1, none⟩ = some (.int .i64 (l.getD j Ent.zero).first) ∧ w.cell? ⟨g, j * 6 + 2, none⟩ = some (.int .i64 (l.getD j Ent.zero).order) ∧ w.cell? ⟨g, j * 6 + 3, none⟩ = some (.int .i64 (l.getD j Ent.zero).base) ∧ w.cell? ⟨g, j * 6 + 4, none⟩ = some (.bool (l.getD j Ent.zero).writ) ∧ w.cell? ⟨g, j * 6 + 5, none⟩ = some (.bool (l.getD j Ent.zero).exe) := by
  rcases h.cases' with ⟨_, rfl⟩ | ⟨g, c', cur, hv, _, _, hg, _, _, _, hh⟩
  · simp at hj
  · cases hv
    exact ⟨g, rfl, rfl, head_cells hg (hh j hj)⟩
/-- The cells of one of the entries that came in. -/
theorem lst_ent {w W : World} {ao : Option Addr} {len : Nat} {D : Nat → Ent} (h : Lst Ent.cells Ent.ok 6 w ao len D) (hb : Below w.heap.size w W) {i : Nat} (hi : i < len) : ∃ b off, ao = some ⟨b, off, none⟩ ∧ (D i).ok ∧ W.cell? ⟨b, off + i * 6, none⟩ = some (.int .i64 (D i).asid) ∧ W.cell? ⟨b, off + i * 6 + 1, none⟩ = some (.int .i64 (D i).first) ∧ W.cell? ⟨b, off + i * 6 + 2, none⟩ = some (.int .i64 (D i).order) ∧ W.cell? ⟨b, off + i * 6 + 3, none⟩ = some (.int .i64 (D i).base) ∧ W.cell? ⟨b, off + i * 6 + 4, none⟩ = some (.bool (D i).writ) ∧ W.cell? ⟨b, off + i * 6 + 5, none⟩ = some (.bool (D i).exe) := by
  obtain ⟨b, off, e, hlt, hall⟩ := (h.below hb).at hi
  obtain ⟨hok, hc⟩ := hall i hi
  exact ⟨b, off, e, hok, hc 0 (by omega), hc 1 (by omega), hc 2 (by omega), hc 3 (by omega), hc 4 (by omega), hc 5 (by omega)⟩

/-- A row that may be written over. -/
def FR (w : World) (g m : Nat) : Prop := ∃ cur : Array Value, w.heap[g]? = some (.cells cur 26 (0, 0)) ∧ m * 6 ≤ cur.size
theorem FR.cell {w : World} {g m : Nat} (h : FR w g m) (j : Nat) (hj : j < m * 6) : ∃ u, w.cell? ⟨g, j, none⟩ = some u := by
  obtain ⟨cur, h1, h2⟩ := h
  rw [cell_of_row w g j cur _ _ h1]
  exact ⟨_, Array.getElem?_eq_getElem (by omega)⟩
theorem FR.frozen {w : World} {g m : Nat} (h : FR w g m) (j : Nat) : w.frozen? ⟨g, j, none⟩ = false := by
  obtain ⟨cur, h1, h2⟩ := h
  exact frozen_of_row w g j cur _ h1
theorem FR.sets {w : World} {g m : Nat} (h : FR w g m) (o : Nat) (vs : List Value) : FR (w.setCells g o vs) g m := by
  obtain ⟨cur, h1, h2⟩ := h
  exact ⟨_, heap_setCells vs w g o cur _ h1, by rw [wrt_size]; exact h2⟩
theorem Own.fr {B : Nat} {w : World} {v : Value} {l : List Ent} (h : Own B w v l) : l = [] ∨ ∃ g c, v = .slice (some ⟨g, 0, none⟩) l.length c ∧ B ≤ g ∧ FR w g l.length := by
  rcases h.cases' with ⟨_, rfl⟩ | ⟨g, c', cur, hv, hB, _, hg, hl, _, hs, _⟩
  · exact Or.inl rfl
  · exact Or.inr ⟨g, c', hv, hB, cur, hg, by omega⟩
end Go.Proofs.Ytpkagigjcnjlpaa
