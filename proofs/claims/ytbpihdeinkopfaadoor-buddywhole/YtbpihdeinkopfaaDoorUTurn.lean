/- A store whose row turns; what a call leaves as it was. -/
import Derived.Test.YtbpihdeinkopfaaDoorURepD
namespace Go.Proofs.YtbpihdeinkopfaaDoor
open Go.RowKit

/-- A store's blocks, and those that are new since. -/
def nw (F : Nat → Prop) (w w' : World) (c : Nat) : Prop := F c ∨ w.heap.size ≤ c ∧ c < w'.heap.size
/-- What a call leaves of a store. -/
def SP (F : Nat → Prop) (w : World) (p n : Nat) (L : List Bk) (w' : World) : Prop := ∃ v', Sto (nw F w w') w' p n v' L ∧ Keeps w w' F

theorem Laid.frozen {w : World} {b : Nat} {t : TypeId} {cs : Array Value} (h : Laid w b t cs) (j : Nat) : w.frozen? ⟨b, j, none⟩ = false := frozen_of_row w b j cs t h
theorem Tab.keeps {w w' : World} {s : Nat → Prop} (h : Tab w) (hk : Keeps w w' s) (h0 : ¬ s 0) : Tab w' := by
  intro j hj
  have hc := h j hj
  have hlt : 0 < w.heap.size := World.block_lt_of_cell? w _ hc
  rw [hk.cell hlt h0]
  exact hc
theorem Sto.p0 {F : Nat → Prop} {w : World} {p n : Nat} {v : Value} {L : List Bk} (h : Sto F w p n v L) : w.cell? ⟨p, 0, none⟩ = some (.int .i64 n) ∧ w.cell? ⟨p, 1, none⟩ = some v ∧ w.frozen? ⟨p, 1, none⟩ = false ∧ p < w.heap.size := by
  refine ⟨?_, ?_, h.laid.frozen 1, h.laid.lt⟩
  · rw [h.laid.cell]; rfl
  · rw [h.laid.cell]; rfl
theorem Sto.ne {F : Nat → Prop} {w : World} {p n : Nat} {v : Value} {L : List Bk} (h : Sto F w p n v L) : some p ≠ v.ownBlock := tag_ne h.laid h.row (by decide)
/-- A row is turned, and stored in its place. -/
theorem Sto.turn {F : Nat → Prop} {w w4 w5 : World} {p n : Nat} {v v' : Value} {L L' : List Bk} (h : Sto F w p n v L) (hb : Below w.heap.size w w4) (hr : Row rB 0 w5 v' L') (hk : Keeps w4 w5 (fun b => v.ownBlock = some b)) (hw : ∀ g, v'.ownBlock = some g → v.ownBlock = some g ∨ w4.heap.size ≤ g) :
    w5.cell? ⟨p, 1, none⟩ = some v ∧ w5.frozen? ⟨p, 1, none⟩ = false ∧ SP F w p n L' (w5.setCell ⟨p, 1, none⟩ v') := by
  have h4 := h.below hb
  have hne := h.ne
  have hp := h.p0.2.2.2
  have hl5 : Laid w5 p 55 #[.int .i64 n, v] := (hk.block p (h4.laid.lt) fun e => hne e.symm).trans h4.laid
  have hp5 := hl5.lt
  refine ⟨by rw [hl5.cell]; rfl, hl5.frozen 1, v', ⟨?_, ?_, Or.inl h.fp, fun g hg => ?_, fun c hc => ?_⟩, ?_⟩
  · have := heap_setCell_same w5 p 1 _ _ v' hl5
    exact this
  · refine (Keeps.set w5 p 1 v').row hr fun g hg e => ?_
    subst e
    rcases hw g hg with h' | h'
    · exact hne h'.symm
    · have := hb.size
      omega
  · rcases hw g hg with h' | h'
    · exact Or.inl (h.fv g h')
    · have := hb.size
      have := (hr.lt g hg).2
      exact Or.inr ⟨by omega, by simpa using this⟩
  · have h1 := hb.size
    have h2 := hk.size
    rcases hc with hc | hc
    · have := h.lt c hc
      simp
      omega
    · exact hc.2
  · have k1 : Keeps w w4 F := Keeps.of_below hb F
    have k2 : Keeps w4 w5 F := hk.mono fun b _ e => h.fv b e
    have k3 : Keeps w5 (w5.setCell ⟨p, 1, none⟩ v') F := (Keeps.set w5 p 1 v').mono fun b _ e => by rw [e]; exact h.fp
    exact (k1.trans k2 fun _ _ h => h).trans k3 fun _ _ h => h
/-- A call that only makes memory. -/
theorem SP.of_below {F : Nat → Prop} {w w' : World} {p n : Nat} {v : Value} {L : List Bk} (h : Sto F w p n v L) (hb : Below w.heap.size w w') : SP F w p n L w' := by
  have h' := h.below hb
  exact ⟨v, ⟨h'.laid, h'.row, Or.inl h.fp, fun g hg => Or.inl (h.fv g hg), fun c hc => hc.elim (h'.lt c) fun e => e.2⟩, Keeps.of_below hb F⟩
/-- A call that only makes memory, ahead of another one. -/
theorem SP.after {F : Nat → Prop} {w w1 w2 : World} {p n : Nat} {L : List Bk} (hF : ∀ c, F c → c < w.heap.size) (hb : Below w.heap.size w w1) (h : SP F w1 p n L w2) : SP F w p n L w2 := by
  obtain ⟨v, h1, h2⟩ := h
  have up : ∀ c, nw F w1 w2 c → nw F w w2 c := fun c hc => hc.elim Or.inl fun e => Or.inr ⟨Nat.le_trans hb.size e.1, e.2⟩
  refine ⟨v, ⟨h1.laid, h1.row, up _ h1.fp, fun g hg => up _ (h1.fv g hg), fun c hc => ?_⟩, (Keeps.of_below hb F).trans h2 fun _ _ e => e⟩
  rcases hc with hc | hc
  · exact Nat.lt_of_lt_of_le (hF c hc) (Nat.le_trans hb.size h2.size)
  · exact hc.2
/-- Two calls. -/
theorem SP.trans {F : Nat → Prop} {w w' w'' : World} {p n : Nat} (hk : Keeps w w' F) {L'' : List Bk} (h : SP (nw F w w') w' p n L'' w'') : SP F w p n L'' w'' := by
  obtain ⟨v'', h1, h2⟩ := h
  refine ⟨v'', ⟨h1.laid, h1.row, ?_, fun g hg => ?_, fun c hc => ?_⟩, hk.trans h2 fun b hb e => ?_⟩
  · rcases h1.fp with (h | h) | h
    · exact Or.inl h
    · exact Or.inr ⟨h.1, Nat.lt_of_lt_of_le h.2 h2.size⟩
    · exact Or.inr ⟨Nat.le_trans hk.size h.1, h.2⟩
  · rcases h1.fv g hg with (h | h) | h
    · exact Or.inl h
    · exact Or.inr ⟨h.1, Nat.lt_of_lt_of_le h.2 h2.size⟩
    · exact Or.inr ⟨Nat.le_trans hk.size h.1, h.2⟩
  · have := h1.lt c
    rcases hc with hc | hc
    · exact this (Or.inl (Or.inl hc))
    · exact hc.2
  · rcases e with e | e
    · exact e
    · omega
end Go.Proofs.YtbpihdeinkopfaaDoor
